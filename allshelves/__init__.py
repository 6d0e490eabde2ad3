"""A store over several houses that commit together, by rules that are data."""
