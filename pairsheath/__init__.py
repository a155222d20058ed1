"""Pairsheath: pairs of points, and why none are better."""
