"""Overlap analysis for strided views; the entry is viewoverlap.overlaps.answers."""
