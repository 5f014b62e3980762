"""Rows of words brought through a net: network coding with errors, erasures and taps."""
