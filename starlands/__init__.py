"""Starlands: lands that take and give border cells."""
