"""Meanrings: rings of the least mean."""
