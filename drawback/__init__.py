"""Drawback: duties given back on what goes out again."""
