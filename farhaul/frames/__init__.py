"""Frames: payloads behind marks, which are found in a line of bits."""
