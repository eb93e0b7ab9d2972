"""Parts: plans in the place of steps of other plans."""
