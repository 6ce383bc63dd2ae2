"""Restfigures: whole numbers kept as their rests."""
