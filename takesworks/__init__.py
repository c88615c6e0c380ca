"""Takesworks: takes, works and discs, out of the lists of many houses."""
