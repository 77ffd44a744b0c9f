"""Pipelines of stable sorts, reversals and unique rows."""
