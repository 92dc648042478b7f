"""A desk that keeps operators under names."""
