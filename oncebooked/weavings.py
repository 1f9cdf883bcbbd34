"""What comes about if takings of one step are woven into each other, under a rule that lets writes or refuses them.

A state is a tuple (holder, written, cells, done, greatest): the number of the taking that has the lock, 0 if it is
free; how many parts each taking has written, STOPPED if it was refused; the number that wrote each cell last, 0 if
none did; whether the step is done; the greatest number whose write was let, 0 if none was.
"""

from oncebooked.basics import is_number, is_row

TAKE = ("take",)
OUT = ("out",)
STOPPED = -1


def first_state(parts):
    """The state ahead of the first event."""
    return (0, (), (0,) * parts, False, 0)


def order_of(number, greatest):
    """Whether the number is less than the greatest one that was let, the same, or greater: -1, 0 or 1."""
    if number > greatest:
        return 1
    return 0 if number == greatest else -1


def situation_of(state, number):
    """The situation of a write of the taking with this number."""
    holder, written, _, done, greatest = state
    return (number == len(written), order_of(number, greatest), holder == number, done)


def is_let(rule, state, event):
    """Whether the event is a write that the rule lets."""
    return event[0] == "write" and situation_of(state, event[1]) in rule


def exchanged(row, at, value):
    """The tuple with this value in the place at."""
    return row[:at] + (value,) + row[at + 1:]


def behind_write(state, number):
    """The state behind a write of this taking that is let."""
    holder, written, cells, done, greatest = state
    part = written[number - 1]
    after = exchanged(written, number - 1, part + 1)
    is_last = part + 1 == len(cells)
    if is_last and holder == number:
        holder = 0
    return (holder, after, exchanged(cells, part, number), done or is_last, max(greatest, number))


def behind(rule, state, event):
    """The state behind an event that can be."""
    holder, written, cells, done, greatest = state
    if event == TAKE:
        return (len(written) + 1, written + (0,), cells, done, greatest)
    if event == OUT:
        return (0, written, cells, done, greatest)
    if is_let(rule, state, event):
        return behind_write(state, event[1])
    return (holder, exchanged(written, event[1] - 1, STOPPED), cells, done, greatest)


def can_write(state, number):
    """Whether the taking with this number has a part to write."""
    return 0 <= state[1][number - 1] < len(state[2])


def can_be(state, event):
    """Whether any value is an event that can be in the state."""
    if event == TAKE:
        return state[0] == 0 and not state[3]
    if event == OUT:
        return state[0] != 0
    if not is_row(event, 2) or event[0] != "write" or not is_number(event[1], 1, len(state[1])):
        return False
    return can_write(state, event[1])


def events_of(state, takings):
    """The list of all events that can be, with at most so many takings."""
    holder, written = state[:2]
    events = [("write", at + 1) for at in range(len(written)) if can_write(state, at + 1)]
    if holder != 0:
        events.append(OUT)
    elif not state[3] and len(written) < takings:
        events.append(TAKE)
    return events


def goes_wrong(rule, state, event):
    """Whether the event makes a weaving wrong that was not wrong ahead of it."""
    if state[3]:
        return is_let(rule, state, event)
    after = behind(rule, state, event)
    return after[3] and after[2] != (after[2][0],) * len(after[2])


def row_to(froms, state):
    """The tuple of events that lead to the state, froms telling for each one the state ahead and the event."""
    events = []
    at = state
    while froms[at] is not None:
        at, event = froms[at]
        events.append(event)
    return tuple(events[::-1])


def shortest_wrong(rule, parts, takings):
    """A wrong weaving with at most so many takings and as few events as can be; None if there is none."""
    first = first_state(parts)
    froms = {first: None}
    front = [first]
    while front:
        later = []
        for state in front:
            for event in events_of(state, takings):
                if goes_wrong(rule, state, event):
                    return row_to(froms, state) + (event,)
                after = behind(rule, state, event)
                if after not in froms:
                    froms[after] = (state, event)
                    later.append(after)
        front = later
    return None
