"""What all of the package rests on: words, and rows of integers."""
