"""Joinedfolk: the people of many houses, under one roof."""
