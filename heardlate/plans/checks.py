"""What the events, steps and bounds of a plan may be."""

from heardlate.base.integers import is_between
from heardlate.base.names import is_name

MAX_DURATION = 99
MAX_DELAY = 99
MAX_BOUND = 999


def are_events(value):
    """Whether the value is a tuple of different names other than "start"."""
    if not isinstance(value, tuple) or not all([is_name(event) for event in value]):
        return False
    return "start" not in value and len(set(value)) == len(value)


def are_steps(value, events):
    """Whether the value is a tuple of steps with different ends, beside these events."""
    if not isinstance(value, tuple) or not all([_is_step(step, events) for step in value]):
        return False
    return len({step[0] for step in value}) == len(value)


def are_bounds(value, points):
    """Whether the value is a tuple of bounds over these points, at most one for each pair."""
    if not isinstance(value, tuple) or not all([_is_bound(bound, points) for bound in value]):
        return False
    return len({bound[:2] for bound in value}) == len(value)


def is_delay(value):
    """Whether the value is a delay: an integer from 0 to 99, or None."""
    return value is None or is_between(value, 0, MAX_DELAY)


def _is_step(value, events):
    if not isinstance(value, tuple) or len(value) != 5:
        return False
    end, begin, least, most, delay = value
    if not is_name(end) or end == "start" or end in events:
        return False
    if begin != "start" and begin not in events:
        return False
    return is_between(most, 1, MAX_DURATION) and is_between(least, 1, most) and is_delay(delay)


def _is_bound(value, points):
    if not isinstance(value, tuple) or len(value) != 3:
        return False
    first, second, most = value
    if first not in points or second not in points or first == second:
        return False
    return is_between(most, -MAX_BOUND, MAX_BOUND)
