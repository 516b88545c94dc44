"""Frames that their lengths tell: rows at right angles, papers and steps."""
