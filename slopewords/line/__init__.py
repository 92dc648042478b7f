"""Tables of functions, and lines over the fractions."""
