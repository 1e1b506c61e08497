"""Formulas, their truth on a database, and the formulas that queries are compiled into."""
