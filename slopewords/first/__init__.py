"""Functions with a told turn, factors of degree 1, and chains of factors."""
