"""Claims and their checker."""
