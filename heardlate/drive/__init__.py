"""Drivers, opponents and moves."""
