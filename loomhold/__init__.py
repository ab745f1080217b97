"""Loomhold: cloths of any length, told by what a stretch does to the threads."""
