"""Frames that are put together of others, and what shows that they are told."""
