"""Papers as texts: tables with numbers, and rows with a ring, whether they are papers of some plan or not."""

from heardlate.base.integers import is_between, is_integer
from heardlate.base.names import is_name
from heardlate.base.texts import MAX_DIGITS, number_in
from heardlate.errors import ParseError
from heardlate.facts.facts import RULES


def is_paper_form(value):
    """Whether the value has the form of a paper."""
    if not isinstance(value, tuple) or len(value) == 0:
        return False
    if value[0] == "table":
        return len(value) == 4 and _is_table_form(value[1], value[2], value[3])
    return value[0] == "refuted" and len(value) == 3 and _is_refutation_form(value[1], value[2])


def paper_text(value):
    """The text of what has the form of a paper."""
    if value[0] == "refuted":
        return _refutation_text(value[1], value[2])
    lines = ["table"]
    for word, numbers in (("plain", value[1]), ("late", value[2])):
        lines.extend([f"{word} {first} {second} {numbers[(first, second)]}" for first, second in sorted(numbers)])
    lines.extend([f"number {name} {value[3][name]}" for name in sorted(value[3])])
    return "\n".join(lines)


def paper_in(lines):
    """What the words of these lines say, which need not have the form of a paper."""
    if lines[0] == ["table"]:
        return _table_in(lines[1:])
    if lines[0] != ["refuted"] or lines[-1][0] != "ring":
        raise ParseError("a paper is a table, or rows with a ring")
    rows = tuple([_row_in(words) for words in lines[1:-1]])
    return "refuted", rows, _numbers_in(lines[-1][1:])


def _is_table_form(plain, late, numbers):
    if not isinstance(plain, dict) or not isinstance(late, dict) or not isinstance(numbers, dict):
        return False
    names = list(numbers)
    if len(names) == 0 or not all([is_name(name) and _is_number(numbers[name]) for name in names]):
        return False
    if not _has_all_pairs(plain, names, names) or not all([isinstance(pair, tuple) for pair in late]):
        return False
    ends = [pair[1] for pair in late if len(pair) == 2 and pair[0] == names[0]]
    return all([end in names for end in ends]) and _has_all_pairs(late, names, ends)


def _has_all_pairs(value, firsts, seconds):
    """Whether the dict has numbers for exactly these pairs."""
    if len(value) != len(firsts) * len(seconds):
        return False
    pairs = [(first, second) for first in firsts for second in seconds]
    return all([pair in value and _is_number(value[pair]) for pair in pairs])


def _is_number(value):
    """Whether the value is an integer that can be written."""
    return is_integer(value) and len(str(abs(value))) <= MAX_DIGITS


def _is_refutation_form(rows, ring):
    if not isinstance(rows, tuple) or not all([_is_row_form(row, index) for index, row in enumerate(rows)]):
        return False
    return _are_indices(ring, len(rows)) and len(ring) > 0


def _is_row_form(value, many):
    """Whether the value has the form of a row behind so many others."""
    if not isinstance(value, tuple) or len(value) != 4:
        return False
    fact, number, rule, sources = value
    if not isinstance(fact, tuple) or len(fact) != 3 or fact[0] not in ("plain", "late"):
        return False
    if not is_name(fact[1]) or not is_name(fact[2]) or not _is_number(number):
        return False
    return (rule == "given" or rule in RULES) and _are_indices(sources, many)


def _are_indices(value, many):
    return isinstance(value, tuple) and all([is_between(index, 0, many - 1) for index in value])


def _refutation_text(rows, ring):
    lines = ["refuted"]
    for (word, first, second), number, rule, sources in rows:
        lines.append(_words_line([f"{word} {first} {second} {number} {rule}"], sources))
    lines.append(_words_line(["ring"], ring))
    return "\n".join(lines)


def _words_line(words, numbers):
    return " ".join(words + [str(number) for number in numbers])


def _table_in(lines):
    tables = {"plain": {}, "late": {}}
    numbers = {}
    for words in lines:
        if len(words) == 4 and words[0] in tables:
            tables[words[0]][(words[1], words[2])] = number_in(words[3])
        elif len(words) == 3 and words[0] == "number":
            numbers[words[1]] = number_in(words[2])
        else:
            raise ParseError("a table has plain and late facts and numbers")
    return "table", tables["plain"], tables["late"], numbers


def _row_in(words):
    if len(words) < 5:
        raise ParseError("a row has a fact, a number, a rule and indices")
    return tuple(words[:3]), number_in(words[3]), words[4], _numbers_in(words[5:])


def _numbers_in(words):
    """The numbers that are written so; those that are none are found to be no indices later."""
    return tuple([number_in(word) for word in words])
