"""Texts of plans, runs, papers and policies, each of which has exactly one."""

from heardlate.base.integers import is_between
from heardlate.base.names import is_name
from heardlate.base.texts import delay_in, delay_word, lines_of, number_in
from heardlate.errors import InvalidNumber, InvalidPlan, InvalidTable, ParseError, TooMany
from heardlate.plans.plans import Plan, check_plan
from heardlate.runs.histories import history_of, run_with
from heardlate.runs.policies import MAX_ROWS, check_policy
from heardlate.runs.runs import MAX_TICK, check_run
from heardlate.text.papers import is_paper_form, paper_in, paper_text

_LAST_TICK = 99
_LAST_END = 198


def format_plan(plan):
    """The text of a plan."""
    check_plan(plan)
    lines = [f"plan {plan.horizon}"]
    lines.extend([f"event {event}" for event in plan.events])
    for end, begin, least, most, delay in plan.steps:
        lines.append(f"step {end} {begin} {least} {most} {delay_word(delay)}")
    lines.extend([f"bound {first} {second} {most}" for first, second, most in plan.bounds])
    return "\n".join(lines)


def parse_plan(text):
    """The plan with this text."""
    lines = lines_of(text)
    words = {"event": [], "step": [], "bound": []}
    for line in lines[1:]:
        if line[0] not in words:
            raise ParseError("a plan has events, steps and bounds")
        words[line[0]].append(line[1:])
    try:
        plan = Plan(
            _head_number(lines, "plan"),
            events=tuple([_event_in(line) for line in words["event"]]),
            steps=tuple([_step_in(line) for line in words["step"]]),
            bounds=tuple([_bound_in(line) for line in words["bound"]]),
        )
    except (InvalidNumber, InvalidPlan, TooMany):
        raise ParseError("this is not the text of a plan") from None
    # The lines may have stood in another order.
    if format_plan(plan) != text:
        raise ParseError("events, steps and bounds ascend")
    return plan


def format_run(run):
    """The text of a run."""
    check_run(run)
    return _run_text(history_of(run), run.tick, run.is_behind)


def parse_run(plan, text):
    """The run of a plan with this text."""
    check_plan(plan)
    lines = lines_of(text)
    head = lines[0]
    if len(head) != 3 or head[2] not in ("before", "behind"):
        raise ParseError("a run begins with its tick and a side of the news")
    tick, is_behind = _head_number([head[:2]], "run"), head[2] == "behind"
    history = _history_in(lines[1:])
    last = tick if is_behind else tick - 1
    if not is_between(tick, 0, MAX_TICK) or not all([is_between(row[0], 0, last) for row in history]):
        raise ParseError("a run has ticks from 0 to 400, and lines up to its own")
    # The lines or names may have stood in another order.
    if _run_text(history, tick, is_behind) != text:
        raise ParseError("lines and names ascend")
    return run_with(plan, history, tick, is_behind)


def format_paper(plan, value):
    """The text of what has the form of a paper."""
    check_plan(plan)
    if not is_paper_form(value):
        raise InvalidTable("this has not the form of a paper")
    return paper_text(value)


def parse_paper(text):
    """What has the form of a paper and this text."""
    value = paper_in(lines_of(text))
    # The lines may have stood in another order.
    if not is_paper_form(value) or paper_text(value) != text:
        raise ParseError("this is not the text of a paper")
    return value


def format_policy(plan, policy):
    """The text of a policy."""
    check_policy(plan, policy)
    return _policy_text(policy)


def parse_policy(text):
    """The policy with this text."""
    lines = lines_of(text)
    if lines[0] != ["policy"] or len(lines) > MAX_ROWS + 1:
        raise ParseError("a policy has at most 2000 pairs")
    policy = {}
    for line in lines[1:]:
        tick, heard, events = _pair_in(line)
        policy[(tick, heard)] = events
    # The lines or names may have stood in another order, or twice.
    if _policy_text(policy) != text:
        raise ParseError("lines and names ascend")
    return policy


def _head_number(lines, word):
    """The number behind the word with which a text begins."""
    head = lines[0]
    if len(head) != 2 or head[0] != word:
        raise ParseError("this is another text")
    return _checked_number(head[1])


def _checked_number(word):
    number = number_in(word)
    if number is None:
        raise ParseError("this is no number")
    return number


def _event_in(words):
    if len(words) != 1:
        raise ParseError("an event has a name")
    return words[0]


def _step_in(words):
    if len(words) != 5:
        raise ParseError("a step has an end, a begin, two durations and a delay")
    is_delay, delay = delay_in(words[4])
    if not is_delay:
        raise ParseError("a delay is a number or never")
    return words[0], words[1], _checked_number(words[2]), _checked_number(words[3]), delay


def _bound_in(words):
    if len(words) != 3:
        raise ParseError("a bound has two points and a number")
    return words[0], words[1], _checked_number(words[2])


def _run_text(history, tick, is_behind):
    side = "behind" if is_behind else "before"
    lines = [f"run {tick} {side}"]
    for at, ends, events in sorted(history):
        for word, names in (("heard", ends), ("done", events)):
            if len(names) > 0:
                joined = " ".join(sorted(set(names)))
                lines.append(f"{word} {at} {joined}")
    return "\n".join(lines)


def _history_in(lines):
    """Triples of a tick, ends and events from the lines of a run."""
    names = {"heard": {}, "done": {}}
    for words in lines:
        if len(words) < 3 or words[0] not in names or not all([is_name(name) for name in words[2:]]):
            raise ParseError("a line of a run has a tick and names")
        names[words[0]][_checked_number(words[1])] = tuple(words[2:])
    ticks = sorted(set(list(names["heard"]) + list(names["done"])))
    return tuple([(tick, names["heard"].get(tick, ()), names["done"].get(tick, ())) for tick in ticks])


def _policy_text(policy):
    lines = ["policy"]
    for tick, heard in sorted(policy):
        words = [f"at {tick} heard"]
        words.extend([f"{end} {at}" for end, at in heard])
        lines.append(" ".join(words + ["do"] + list(policy[(tick, heard)])))
    return "\n".join(lines)


def _pair_in(words):
    """A tick, the ends that were heard, and the events that are done, from a line of a policy."""
    if len(words) < 4 or words[0] != "at" or words[2] != "heard":
        raise ParseError("a line of a policy has a tick, what was heard, and what is done")
    tick = _checked_number(words[1])
    heard = []
    place = 3
    # An end may be called do, but behind an end there is a number.
    while place + 1 < len(words) and number_in(words[place + 1]) is not None:
        heard.append((words[place], number_in(words[place + 1])))
        place += 2
    if place == len(words) or words[place] != "do":
        raise ParseError("a line of a policy tells what is done")
    events = words[place + 1:]
    ends = [end for end, _ in heard]
    if not _are_ascending_names(ends) or not _are_ascending_names(events):
        raise ParseError("names ascend")
    if not is_between(tick, 0, _LAST_TICK) or not all([is_between(at, 0, _LAST_END) for _, at in heard]):
        raise ParseError("these are no ticks of a policy")
    return tick, tuple(heard), tuple(events)


def _are_ascending_names(names):
    if not all([is_name(name) for name in names]):
        return False
    return all([first < second for first, second in zip(names, names[1:])])
