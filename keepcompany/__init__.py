"""Keepcompany: whether a box stays steady, whoever comes to join it."""
