"""What operators make 0, and right sides."""
