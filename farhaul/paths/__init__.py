"""Received rows of shift registers, and the least paths through them (the Viterbi algorithm)."""
