"""Texts of nets, codes and bent links."""
