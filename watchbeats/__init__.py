"""Watchbeats: guards on beats, and what a caller who watches can gain."""
