"""Polynomials over a finite field."""
