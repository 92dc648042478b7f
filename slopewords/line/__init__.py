"""Tables of functions."""
