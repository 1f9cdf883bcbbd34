"""Runners: in which sequence steps can be done, and by which rules no step is done by two hands."""

from itertools import permutations

from oncebooked.basics import ascends, is_integer, is_name, is_number, is_row, number_in
from oncebooked.errors import BadDone, BadNumber, BadRule, BadSteps, BadWeaving, BadWords, TooMany
from oncebooked.weavings import behind, can_be, first_state, goes_wrong, is_let, shortest_wrong

MOST_STEPS = 30
MOST_TICKS = 1000
MOST_HANDS = 8
MOST_PLANNED = 6
MOST_PARTS = 3
MOST_TAKINGS = 4
MOST_EVENTS = 200
SAFE = ("safe",)
WORDS = ("held", "later", "newest", "undone")


def read_step(line, ahead):
    """(name, ticks, befores) as the line tells it; None if it cannot stand behind steps with these names."""
    words = line.split(" ")
    if len(words) < 3 or words[0] != "step" or not is_name(words[1]) or words[1] in ahead:
        return None
    ticks = number_in(words[2], 1, MOST_TICKS)
    befores = words[3:]
    if ticks is None or len(befores) != len(set(befores)) or not all([name in ahead for name in befores]):
        return None
    return words[1], ticks, tuple(befores)


def read_steps(text):
    """The tuple of the steps that the text of a web of steps tells; raises BadSteps."""
    if not isinstance(text, str):
        raise BadSteps(0)
    rows = []
    for line in text.split("\n"):
        row = read_step(line, [ahead[0] for ahead in rows])
        if row is None or len(rows) == MOST_STEPS:
            raise BadSteps(len(rows) + 1)
        rows.append(row)
    return tuple(rows)


class Steps:
    """A web of steps: how long each one takes, and which ones have to be done ahead of it."""

    def __init__(self, text):
        rows = read_steps(text)
        self.text = text
        self.rows = rows

    def __len__(self):
        return len(self.rows)


def are_done(steps, value):
    """Whether value is an ascending tuple of names of steps that can be done, and no others."""
    if not isinstance(value, tuple) or not all([isinstance(name, str) for name in value]):
        return False
    if not ascends(value):
        return False
    befores = {name: needed for name, _, needed in steps.rows}
    if not all([name in befores for name in value]):
        return False
    return all([before in value for name in value for before in befores[name]])


def can_begin(steps, done):
    """The names of all steps that are not done, and whose befores all are."""
    if not are_done(steps, done):
        raise BadDone(done)
    rows = [(name, befores) for name, _, befores in steps.rows if name not in done]
    return tuple([name for name, befores in rows if all([before in done for before in befores])])


def longest_row(steps):
    """(ticks, row): steps, each one ahead of the next one, that take the most ticks together."""
    best = {}
    for name, ticks, befores in steps.rows:
        total, row = max([best[before] for before in befores], default=(0, ()))
        best[name] = (total + ticks, row + (name,))
    return max(list(best.values()))


def shows_longest_row(steps, value):
    """Whether any value is what longest_row may return."""
    most = longest_row(steps)[0]
    if not is_row(value, 2) or not is_number(value[0], most, most) or not isinstance(value[1], tuple):
        return False
    known = {name: (ticks, befores) for name, ticks, befores in steps.rows}
    row = value[1]
    if not all([isinstance(name, str) and name in known for name in row]):
        return False
    if not all([row[at - 1] in known[row[at]][1] for at in range(1, len(row))]):
        return False
    return sum([known[name][0] for name in row]) == most


def under_way(spans, tick):
    """How many of the spans (begin, end) are under way at this tick."""
    return len([begin for begin, end in spans if begin <= tick < end])


def has_room(spans, hands, begin, ticks):
    """Whether a hand is free from begin on for so many ticks, beside the steps of the spans."""
    # More steps than ahead are under way only where one of them begins.
    looked_at = [begin] + [start for start, _ in spans if begin < start < begin + ticks]
    return all([under_way(spans, tick) < hands for tick in looked_at])


def first_begin(spans, hands, ready, ticks):
    """The first tick, from ready on, at which a step with so many ticks can begin beside these spans."""
    ends = [end for _, end in spans if end > ready]
    return min([tick for tick in [ready] + ends if has_room(spans, hands, tick, ticks)])


def plan_by(steps, hands, order):
    """The tuple of the ticks at which the steps begin, if they are set in this order, each as early as can be.

    None if the order sets a step ahead of one of its befores.
    """
    ends = {}
    begins = {}
    spans = []
    for at in order:
        name, ticks, befores = steps.rows[at]
        if not all([before in ends for before in befores]):
            return None
        ready = max([ends[before] for before in befores], default=0)
        begins[name] = first_begin(spans, hands, ready, ticks)
        ends[name] = begins[name] + ticks
        spans.append((begins[name], ends[name]))
    return tuple([begins[row[0]] for row in steps.rows])


def check_plan(steps, hands):
    """Raises BadNumber, or TooMany if there are more steps than can be gone through."""
    if not is_number(hands, 1, MOST_HANDS):
        raise BadNumber(hands)
    if len(steps) > MOST_PLANNED:
        raise TooMany(MOST_PLANNED)


def end_of(steps, plan):
    """The end of the last step of the plan."""
    return max([begin + row[1] for begin, row in zip(plan, steps.rows)])


def best_plan(steps, hands):
    """(ticks, plan): a plan whose last end is as early as can be."""
    best = None
    # There is a best plan in which no step alone could begin sooner: the order in which its steps begin leads to it.
    places = list(range(len(steps)))
    for order in permutations(places):
        plan = plan_by(steps, hands, order)
        if plan is not None and (best is None or end_of(steps, plan) < best[0]):
            best = (end_of(steps, plan), plan)
    return best


def least_time(steps, hands):
    """(ticks, plan): the tick at which each step begins, such that the end of the last one is as early as can be."""
    check_plan(steps, hands)
    return best_plan(steps, hands)


def is_plan(steps, hands, value):
    """Whether value is a plan with which the steps can be done by so many hands."""
    if not is_row(value, len(steps)) or not all([is_integer(begin) and begin >= 0 for begin in value]):
        return False
    spans = [(begin, begin + row[1]) for begin, row in zip(value, steps.rows)]
    ends = {row[0]: span[1] for row, span in zip(steps.rows, spans)}
    for row, begin in zip(steps.rows, value):
        if not all([ends[before] <= begin for before in row[2]]) or under_way(spans, begin) > hands:
            return False
    return True


def shows_least_time(steps, hands, value):
    """Whether any value is what least_time may return."""
    check_plan(steps, hands)
    least = best_plan(steps, hands)[0]
    if not is_row(value, 2) or not is_number(value[0], least, least) or not is_plan(steps, hands, value[1]):
        return False
    return end_of(steps, value[1]) == least


def is_situation(value):
    """Whether value is a situation (newest, order, held, done) of a write."""
    if not is_row(value, 4) or not is_number(value[1], -1, 1):
        return False
    return all([isinstance(part, bool) for part in (value[0], value[2], value[3])])


def is_rule(value):
    """Whether any value is a rule."""
    return isinstance(value, tuple) and all([is_situation(part) for part in value]) and ascends(value)


def holds(word, situation):
    """Whether that for which the word stands holds in the situation."""
    newest, order, held, done = situation
    return {"held": held, "later": order != -1, "newest": newest, "undone": not done}[word]


def rule_of(words):
    """The rule that lets a write exactly if all for which the words stand holds."""
    if not isinstance(words, tuple) or not all([isinstance(word, str) and word in WORDS for word in words]):
        raise BadWords(words)
    if not ascends(words):
        raise BadWords(words)
    sides = (False, True)
    told = [(newest, order, held, done) for newest in sides for order in (-1, 0, 1) for held in sides for done in sides]
    return tuple([situation for situation in told if all([holds(word, situation) for word in words])])


def check_rule(rule, parts):
    """Raises BadRule or BadNumber for the first of the two that is not as it has to be."""
    if not is_rule(rule):
        raise BadRule(rule)
    if not is_number(parts, 1, MOST_PARTS):
        raise BadNumber(parts)


def states_of(rule, parts, weaving):
    """The list of the states ahead of all events of the weaving, and behind the last one; raises BadWeaving."""
    if not isinstance(weaving, tuple) or len(weaving) > MOST_EVENTS:
        raise BadWeaving(None)
    states = [first_state(parts)]
    for at, event in enumerate(weaving):
        if not can_be(states[at], event):
            raise BadWeaving(at)
        states.append(behind(rule, states[at], event))
    return states


def played(rule, parts, weaving):
    """(takings, holder, cells, done, let) behind the weaving."""
    check_rule(rule, parts)
    states = states_of(rule, parts, weaving)
    holder, written, cells, done, _ = states[-1]
    let = [is_let(rule, state, event) for state, event in zip(states, weaving) if event[0] == "write"]
    return (len(written), None if holder == 0 else holder, cells, done, tuple(let))


def wrong_in(rule, parts, weaving):
    """Whether the weaving is wrong at its last event, and no sooner; raises BadWeaving."""
    states = states_of(rule, parts, weaving)
    wrong = [goes_wrong(rule, state, event) for state, event in zip(states, weaving)]
    return any(wrong) and not any(wrong[:-1])


def is_wrong(rule, parts, weaving):
    """Whether the weaving is wrong."""
    check_rule(rule, parts)
    return wrong_in(rule, parts, weaving)


def check_takings(rule, parts, takings):
    """Raises BadRule, or BadNumber for parts, then for takings."""
    check_rule(rule, parts)
    if not is_number(takings, 1, MOST_TAKINGS):
        raise BadNumber(takings)


def judged_rule(rule, parts, takings):
    """("safe",), or ("wrong", weaving) with at most so many takings, and with as few events as can be."""
    check_takings(rule, parts, takings)
    weaving = shortest_wrong(rule, parts, takings)
    return SAFE if weaving is None else ("wrong", weaving)


def shows_rule(rule, parts, takings, value):
    """Whether any value is what judged_rule may return."""
    check_takings(rule, parts, takings)
    fewest = shortest_wrong(rule, parts, takings)
    if fewest is None or value == SAFE:
        return fewest is None and value == SAFE
    if not is_row(value, 2) or value[0] != "wrong" or not is_row(value[1], len(fewest)):
        return False
    try:
        wrong = wrong_in(rule, parts, value[1])
    except BadWeaving:
        return False
    return wrong and len([event for event in value[1] if event == ("take",)]) <= takings
