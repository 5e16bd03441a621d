"""Indexes, and books that are worked on."""
