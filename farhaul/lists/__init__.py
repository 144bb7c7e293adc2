"""Lists of words of root codes that are near to what was received, or that win most votes."""
