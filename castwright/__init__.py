"""Castwright: terms of which only some kinds are known."""
