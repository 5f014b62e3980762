"""Nets."""
