"""Strayfiles: files and the rows that name them, for any number of hands."""
