"""Linearised polynomials, rank codes, decoding by ranks."""
