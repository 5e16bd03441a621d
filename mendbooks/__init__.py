"""Mendbooks: schemes of search trees, each decided for all trees."""
