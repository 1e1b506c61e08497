"""Rightrecord: what is true whichever of the conflicting records is right."""
