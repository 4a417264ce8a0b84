"""Shadowpost: a yard of stones, what stands there, and the sun's ways."""
