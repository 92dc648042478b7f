"""Polynomials modulo a small prime."""
