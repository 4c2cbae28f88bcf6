"""Counters that are read while they change."""
