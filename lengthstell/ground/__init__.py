"""Stands: frames with slides, their places, and the parts into which they fall."""
