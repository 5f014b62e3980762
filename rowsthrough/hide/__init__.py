"""What is hidden."""
