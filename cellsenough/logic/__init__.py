"""Claims about the arrays, positions and values of a frame."""
