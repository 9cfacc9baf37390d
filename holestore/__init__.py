"""Holestore: programs on a memory that is a sliding puzzle."""
