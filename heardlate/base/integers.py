"""What counts as an integer."""


def is_integer(value):
    """Whether the value is an integer; True and False are none."""
    return isinstance(value, int) and not isinstance(value, bool)


def is_between(value, least, most):
    """Whether the value is an integer from least to most."""
    return is_integer(value) and least <= value <= most
