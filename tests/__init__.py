"""The tests of mendbooks; README.md tells how to run them."""
