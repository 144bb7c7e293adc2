"""Recurrences and BCH codes."""
