"""Leanestate: an estate that is less than what is claimed of it."""
