"""Claims of sources, and policies that state which of them count."""
