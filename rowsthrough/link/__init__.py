"""Link codes, and one code for all sinks."""
