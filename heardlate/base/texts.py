"""Numbers and words in texts."""

MAX_DIGITS = 40

_DIGITS = "0123456789"


def number_in(word):
    """The integer that is written so, without zeros in front; None if the word is no number."""
    digits = word[1:] if word.startswith("-") else word
    if not 1 <= len(digits) <= MAX_DIGITS or not all([sign in _DIGITS for sign in digits]):
        return None
    if digits.startswith("0") and word != "0":
        return None
    return int(word)


def delay_in(word):
    """Whether the word is a delay, and the delay: a number, or None for never."""
    if word == "never":
        return True, None
    number = number_in(word)
    return number is not None, number


def delay_word(delay):
    """The word for a delay."""
    return "never" if delay is None else str(delay)


def lines_of(value):
    """The words of each line of a text; no words at all if the value is no string."""
    if not isinstance(value, str):
        return [[""]]
    return [line.split(" ") for line in value.split("\n")]
