"""Desks, which keep the classes of answers up to date, and replicas, which exchange what they have received."""
