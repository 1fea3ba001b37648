"""Blockorder: the structure of equation systems."""
