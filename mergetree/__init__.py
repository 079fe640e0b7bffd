"""Mergetree: many rows in order merged to one by a tree of matches."""
