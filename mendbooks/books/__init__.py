"""Drawings, and books of them."""
