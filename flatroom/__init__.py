"""Rooms of a few places over a prime, and their flats."""
