"""Counters that carry into one another."""
