"""Wishlots: things dealt by shares and lots."""
