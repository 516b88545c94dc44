"""Placings of frames on the line and in the plane."""
