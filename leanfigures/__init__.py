"""Whole numbers written by the figures -1, 0 and 1."""
