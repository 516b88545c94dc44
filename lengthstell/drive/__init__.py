"""Ties of stands that are driven, and the moves that this makes."""
