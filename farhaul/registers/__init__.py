"""Shift registers: the encoders of convolutional codes."""
