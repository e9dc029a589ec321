"""Turngrid: turns of space and the points that two grids share."""
