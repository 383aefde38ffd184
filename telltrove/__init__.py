"""Telltrove: a house whose forms change, that shows each client its own version."""
