"""Stepnames: sums cut to named steps."""
