"""Tests of watchbeats, promise by promise."""
