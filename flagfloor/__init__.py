"""Floors of squares laid with double flags, turned two by two."""
