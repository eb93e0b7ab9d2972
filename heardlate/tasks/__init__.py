"""Tasks: work in rows and beside one another, which is compiled to plans."""
