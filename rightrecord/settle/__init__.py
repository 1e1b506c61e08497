"""Settlements, which state that one of some records of a group is right."""
