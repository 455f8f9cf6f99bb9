"""Which notes of outlines are kept, and which runs end."""
