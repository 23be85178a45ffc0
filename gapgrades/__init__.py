"""Gapgrades: worn things graded by a row of holes."""
