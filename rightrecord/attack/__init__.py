"""Which atoms of a query attack which variables and which other atoms."""
