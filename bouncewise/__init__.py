"""Bouncewise: flights in rooms of whole corners."""
