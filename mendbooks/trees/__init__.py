"""Trees without keys."""
