"""Names of points, plans, runs and leaves."""


def is_name(value):
    """Whether the value is a string of one to eight letters from a to z."""
    if not isinstance(value, str) or not 1 <= len(value) <= 8:
        return False
    return all(["a" <= sign <= "z" for sign in value])
