"""Databases, their groups of records, and the choices among them."""
