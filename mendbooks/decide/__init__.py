"""What is decided for all trees."""
