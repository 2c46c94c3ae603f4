"""Leadbeats: a tune that fits itself while it is sung at unlike paces at once."""
