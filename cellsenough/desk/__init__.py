"""Desks, on which facts, claims with names and pins about them lie."""
