"""Promises about frames, and desks that keep them."""
