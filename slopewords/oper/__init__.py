"""Operators, and their division."""
