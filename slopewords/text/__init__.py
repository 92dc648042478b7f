"""Texts of polynomials, functions and operators."""
