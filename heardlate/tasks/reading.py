"""Reading: the trees of tasks from their texts."""

from heardlate.base.texts import delay_in, number_in
from heardlate.errors import ParseError
from heardlate.tasks.trees import joined, text_of


def tree_in(text, most_deep):
    """The tree of a text that is nested at most so deep; its names and numbers are not looked at."""
    if not isinstance(text, str) or _nesting(text) > most_deep:
        raise ParseError("this is no text, or it is nested too deep")
    tree = _task_in(text)
    # What was read may have been written with other signs.
    if text_of(tree) != text:
        raise ParseError("this is not the text of a task")
    return tree


def _nesting(text):
    """How many parentheses and brackets are open at once."""
    most = 0
    level = 0
    for sign in text:
        level = _level_behind(level, sign)
        most = max(most, level)
    return most


def _level_behind(level, sign):
    if sign in ("(", "["):
        return level + 1
    if sign in (")", "]"):
        return level - 1
    return level


def _split(text, between):
    """The parts of a text between signs that stand in no parentheses and brackets."""
    parts = []
    level = 0
    begin = 0
    for place, sign in enumerate(text):
        level = _level_behind(level, sign)
        if level == 0 and text[place:place + len(between)] == between:
            parts.append(text[begin:place])
            begin = place + len(between)
    return parts + [text[begin:]]


def _task_in(text):
    parts = _split(text, " | ")
    if len(parts) == 1:
        return _row_in(text)
    return joined("beside", [_row_in(part) for part in parts])


def _row_in(text):
    parts = _split(text, "; ")
    if len(parts) == 1:
        return _single_in(text)
    return joined("row", [_part_in(part) for part in parts])


def _part_in(text):
    """The tree of a part of a row, which may be a beside in parentheses."""
    if text.startswith("(") and text.endswith(")"):
        return _task_in(text[1:-1])
    return _single_in(text)


def _single_in(text):
    """The tree of a leaf or a within."""
    if not text.startswith("["):
        return _leaf_in(text)
    inner, _, word = text[1:].rpartition("] ")
    most = number_in(word)
    if most is None:
        raise ParseError("a within ends with a number")
    return "within", _task_in(inner), most


def _leaf_in(text):
    words = text.split(" ")
    if len(words) not in (2, 3):
        raise ParseError("a leaf has a name, a span, and perhaps a delay")
    first, _, last = words[1].partition("..")
    least, most = number_in(first), number_in(last.rstrip("?"))
    if least is None or most is None:
        raise ParseError("a span has two numbers")
    if len(words) == 2:
        return "own", words[0], least, most
    is_delay, delay = delay_in(words[2])
    if not is_delay:
        raise ParseError("a delay is a number or never")
    return "other", words[0], least, most, delay
