"""Polynomials with integers of any sizes."""
