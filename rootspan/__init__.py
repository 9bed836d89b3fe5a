"""Rootspan: numbers that are roots, told exactly."""
