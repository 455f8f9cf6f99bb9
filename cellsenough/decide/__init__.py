"""What follows, and claims beside each other."""
