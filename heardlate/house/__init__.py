"""Houses of plans and runs that are edited together."""
