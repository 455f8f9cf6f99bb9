"""Situations, in which claims are true or false."""
