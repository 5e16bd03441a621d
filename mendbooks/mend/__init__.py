"""Deeds in single trees."""
