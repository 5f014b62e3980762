"""Wrong and silent links, and what a sink can tell."""
