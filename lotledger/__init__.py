"""Lotledger: books of lots."""
