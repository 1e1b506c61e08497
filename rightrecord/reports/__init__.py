"""Reports of several steps over the answers of queries."""
