"""Settlements, the groups that matter for an answer, and plans that tell which groups to settle."""
