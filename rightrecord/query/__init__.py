"""Queries, their answers, and the records that match them."""
