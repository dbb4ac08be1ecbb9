"""Roadsay: sayings of what is done with letters, held against one another."""
