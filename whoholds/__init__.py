"""Whoholds: which names may hold which boxes."""
