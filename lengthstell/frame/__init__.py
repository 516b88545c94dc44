"""Frames, and the lots of pins that cut them."""
