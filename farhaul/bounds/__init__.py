"""Bounds within which a link delivers everything."""
