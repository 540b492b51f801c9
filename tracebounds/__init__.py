"""Tracebounds: what one lot leaves for the next ones."""
