"""Texts of books, shapes and papers, and a shell of commands."""
