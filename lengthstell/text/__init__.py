"""Texts of frames, stands and data, and a shell that is told lines."""
