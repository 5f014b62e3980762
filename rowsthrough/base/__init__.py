"""Words of fields and matrices."""
