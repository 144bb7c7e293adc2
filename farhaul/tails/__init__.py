"""Rows of shift registers that are punctured, that bite their tails, or that have no end."""
