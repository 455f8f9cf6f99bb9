"""Differences, questions and trees of cases."""
