"""Integers, names and frames."""
