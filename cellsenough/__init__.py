"""Cellsenough: claims about arrays of every length, decided by arrays of few cells."""
