"""Runs of plans."""
