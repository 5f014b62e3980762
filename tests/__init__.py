"""Tests of rowsthrough."""
