"""Scopestore: rows over unknowns, told and taken back."""
