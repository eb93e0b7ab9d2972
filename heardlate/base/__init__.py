"""What everything else rests on: integers, names and arcs."""
