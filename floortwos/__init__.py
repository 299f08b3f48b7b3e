"""Floortwos: floors laid with tiles of two cells."""
