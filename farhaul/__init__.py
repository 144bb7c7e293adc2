"""Farhaul: links that mend errors."""
