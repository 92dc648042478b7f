"""Operators that lead to others, rings of operators, and systems."""
