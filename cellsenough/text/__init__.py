"""Claims and rows as texts, and a shell that is told commands as texts."""
