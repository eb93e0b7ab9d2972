"""Texts of plans, runs, papers and policies, and a shell."""
