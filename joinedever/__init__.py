"""Joinedever: joined or not, at any moment."""
