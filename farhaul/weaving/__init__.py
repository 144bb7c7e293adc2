"""Weaving (interleaving): orders in which items are sent so that bursts are parted."""
