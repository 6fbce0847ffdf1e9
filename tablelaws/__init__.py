"""Tablelaws: when two programs over small square matrices are alike."""
