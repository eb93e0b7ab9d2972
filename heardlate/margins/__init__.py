"""Margins: how far numbers of a plan can go, which ends must be heard, and which bounds matter."""
