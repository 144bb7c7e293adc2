"""Exchanges: messages that are sent again until they have arrived."""
