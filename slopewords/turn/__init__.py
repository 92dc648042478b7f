"""Turns and norms of operators, and roots of norms."""
