"""Texts written in a plain way, and texts that are nearly right."""

from heardlate.runs.runs import Run
from tests.game_answers import Game, moment


def word(number):
    return "never" if number is None else str(number)


def plan_text(plan):
    text = "plan " + str(plan.horizon)
    for event in sorted(plan.events):
        text += "\nevent " + event
    for step in sorted(plan.steps):
        text += "\nstep " + " ".join(part if isinstance(part, str) else word(part) for part in step)
    for u, v, w in sorted(plan.bounds):
        text += f"\nbound {u} {v} {w}"
    return text


def run_text(run):
    text = f"run {run.tick} " + ("behind" if run.is_behind else "before")
    told = {}
    for point, tick in run.times.items():
        if point in run.plan.ends:
            told.setdefault((tick + run.plan.step(point)[4], "heard"), []).append(point)
        elif point != "start":
            told.setdefault((tick, "done"), []).append(point)
    # In a tick what was heard comes ahead of what was done.
    for tick, kind in sorted(told, key=lambda at: (at[0], at[1] == "done")):
        text += f"\n{kind} {tick} " + " ".join(sorted(told[(tick, kind)]))
    return text


def paper_text(paper):
    if paper[0] == "table":
        lines = ["table"]
        lines += [f"plain {u} {v} {w}" for (u, v), w in sorted(paper[1].items())]
        lines += [f"late {u} {c} {w}" for (u, c), w in sorted(paper[2].items())]
        lines += [f"number {u} {w}" for u, w in sorted(paper[3].items())]
        return "\n".join(lines)
    lines = ["refuted"]
    for (kind, u, v), w, rule, sources in paper[1]:
        lines.append(" ".join([kind, u, v, str(w), rule] + [str(source) for source in sources]))
    return "\n".join(lines) + "\nring " + " ".join(str(index) for index in paper[2])


def policy_text(policy):
    text = "policy"
    for (tick, heard), events in sorted(policy.items()):
        text += f"\nat {tick} heard"
        for end, at in heard:
            text += f" {end} {at}"
        text += " do"
        for event in events:
            text += " " + event
    return text


def nearly(text, chance):
    """A text that differs a little: in a sign, a word, or a line."""
    kind = chance.randrange(7)
    if kind < 3:
        place = chance.randrange(len(text) + 1)
        sign = chance.choice(" \n-+0123456789acv\t.")
        if kind == 0:
            return text[:place] + sign + text[place:]
        return text[:place] + (sign if kind == 1 else "") + text[place + 1:]
    lines = text.split("\n")
    place = chance.randrange(len(lines))
    if kind == 3:
        return "\n".join(lines[:place] + [lines[place]] + lines[place:])
    if kind == 4:
        chance.shuffle(lines)
        return "\n".join(lines)
    if kind == 5:
        return "\n".join(lines[:place] + lines[place + 1:])
    words = lines[place].split(" ")
    at = chance.randrange(len(words))
    words[at:at + 1] = chance.choice(([], words[at:at + 1] * 2, [chance.choice(("0", "-1", "c", "v", "do", "start", "never"))]))
    return "\n".join(lines[:place] + [" ".join(words)] + lines[place + 1:])


def some_runs(plans, chance):
    """Runs of plans, before and behind the news of their ticks."""
    for plan in plans:
        game = Game(plan)
        run = Run(plan)
        while run.tick < plan.horizon + 5:
            yield run
            if not run.is_behind:
                run = run.hear(*chance.choice(list(game.sets(*moment(run)))))
            elif run.left and run.tick <= plan.horizon and chance.random() < 0.4:
                run = run.do(*chance.sample(run.left, chance.randint(1, len(run.left))))
            else:
                run = run.wait()
