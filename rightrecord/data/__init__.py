"""Databases and their groups of records."""
