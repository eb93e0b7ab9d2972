"""Ends that must be heard: sets of ends that are enough for a driver, and sets without which there is none."""

from heardlate.errors import UnknownName
from heardlate.facts.decided import check_driven, is_driven, paper_of
from heardlate.facts.refutations import is_refutation
from heardlate.facts.tables import is_table_paper
from heardlate.plans.plans import check_plan
from heardlate.runs.news import subsets


def is_enough(plan, *ends):
    """Whether the plan in which all other ends are never heard is driven."""
    _check_ends(plan, ends)
    return is_driven(_hearing_just(plan, ends))


def is_block(plan, *ends):
    """Whether the plan in which just these ends are never heard is refuted."""
    _check_ends(plan, ends)
    return not is_driven(_missing(plan, ends))


def least_sets(plan):
    """All sets that are enough and from which no end can be left out, by size and then ascending."""
    check_driven(plan)
    return _least_enough(plan)


def least_blocks(plan):
    """All blocks from which no end can be left out, by size and then ascending."""
    check_plan(plan)
    found = []
    for ends in subsets(plan.ends):
        if not _contains_one(ends, found) and not is_driven(_missing(plan, ends)):
            found.append(ends)
    return tuple(found)


def needed_ends(plan):
    """The ends that are in every set that is enough, ascending."""
    check_driven(plan)
    # The greatest set without an end has all others; if it is not enough, no set without this end is.
    return tuple([end for end in plan.ends if not is_driven(_missing(plan, (end,)))])


def hearing_paper(plan):
    """Sets that are enough, with table papers, and blocks, with refutations, that settle it for every set."""
    check_plan(plan)
    enough = {ends: paper_of(_hearing_just(plan, ends)) for ends in sorted(_least_enough(plan))}
    blocks = {ends: paper_of(_missing(plan, ends)) for ends in sorted(least_blocks(plan))}
    return enough, blocks


def is_hearing_paper(plan, value):
    """Whether the value is a hearing paper."""
    check_plan(plan)
    if not isinstance(value, tuple) or len(value) != 2:
        return False
    enough, blocks = value
    if not _are_sets(plan, enough) or not _are_sets(plan, blocks):
        return False
    for ends in subsets(plan.ends):
        missing = [end for end in plan.ends if end not in ends]
        if not _contains_one(ends, enough) and not _contains_one(missing, blocks):
            return False
    if not all([is_table_paper(_hearing_just(plan, ends), enough[ends]) for ends in enough]):
        return False
    return all([is_refutation(_missing(plan, ends), blocks[ends]) for ends in blocks])


def _check_ends(plan, ends):
    check_plan(plan)
    for end in ends:
        if end not in plan.ends:
            raise UnknownName(end)


def _hearing_just(plan, ends):
    """The plan in which all other ends are never heard."""
    return _missing(plan, [end for end in plan.ends if end not in ends])


def _missing(plan, ends):
    """The plan in which just these ends are never heard."""
    # Called without ends, deaf would take all of them.
    if len(ends) == 0:
        return plan
    return plan.deaf(*ends)


def _least_enough(plan):
    found = []
    for ends in subsets(plan.ends):
        if not _contains_one(ends, found) and is_driven(_hearing_just(plan, ends)):
            found.append(ends)
    return tuple(found)


def _contains_one(ends, sets):
    """Whether the ends contain all of one of the sets."""
    return any([all([end in ends for end in chosen]) for chosen in sets])


def _are_sets(plan, value):
    """Whether the value is a dict from ascending tuples of ends."""
    if not isinstance(value, dict):
        return False
    known = subsets(plan.ends)
    return all([ends in known for ends in value])
