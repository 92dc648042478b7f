"""Functions with a told turn."""
