"""The desk."""
