"""Cellkeep: a keeper of memory, young and old."""
