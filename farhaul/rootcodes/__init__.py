"""Codes whose words are 0 at given powers of the root of a field."""
