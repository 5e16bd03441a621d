"""What all other modules rest on: words, forms, schemes and pictures."""
