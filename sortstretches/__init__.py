"""Scripts that sort stretches of a row."""
