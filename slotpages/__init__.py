"""Slotpages: rows of any length in pages of fixed room."""
