"""Saltmill: key and password derivation, plain and in pieces."""
