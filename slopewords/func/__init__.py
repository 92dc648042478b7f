"""Functions: quotients of polynomials, their places and their slopes."""
