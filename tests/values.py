"""Values of every kind that may be passed in, for the tests of wrong inputs."""

from oncebooked.days import Day
from oncebooked.desk import Desk
from oncebooked.entries import Bank, Batch
from oncebooked.interest import Accrual
from oncebooked.night import Run
from oncebooked.runners import Steps
from oncebooked.shelves import Shelf


def deep(kind):
    """A value nested 60 deep."""
    value = kind()
    for _ in range(59):
        value = kind([value])
    return value


def odd_values():
    """Any values, of which most are wrong for most parameters."""
    bank = Bank('branch a 1')
    run = Run(bank, (('batch 1 a 0 0',),))
    return [
        None, True, False, 0, 1, -1, 10 ** 39, -10 ** 39,
        '', 'a', 'abcdefghi', 'A', 'a1', 'a b', 'a.b', 'a\tb', 'a\nb', 'add', 'sync', '0', 'x' * 201,
        (), ('a',), ('sync',), ('a', 1), (1, 2, 3), (None,), ((),), (((), ()),), ('a', ()), (('a', 1),), ((1, ()),),
        [], ['a'], ['sync'], [('a', ())], [1], {}, {'a': ()}, {'a': 1}, {1: 2},
        Shelf(()), bank, Batch(bank, 'batch 1 a 0 0'), deep(tuple), deep(list), [Shelf(())], (bank,),
        run, run.branch_at('a'), Accrual(0), [run], (Accrual(0),),
        Steps('step a 1'), Day('branch a 0\nnight'), Desk(), (Desk(),),
    ]


def same(one, other):
    """Whether the values are equal, True not being 1, and of the same kinds throughout."""
    return repr(one) == repr(other) and one == other


def near_values(value):
    """Values that differ from this one in one place: other numbers, other kinds, parts more, fewer and exchanged."""
    if isinstance(value, bool):
        return [not value, int(value), None]
    if isinstance(value, int):
        return [value + 1, value - 1, -value, -value - 1, str(value), None, (value,), [value]] + ([bool(value)] if value in (0, 1) else [])
    if isinstance(value, str):
        return [value + 'x', value[:-1], 'a', '', None, (value,), [value], 0]
    if value is None:
        return [0, False, (), '']
    found = [list(value), value + (None,), None, (value,)]
    for at, part in enumerate(value):
        found += [value[:at] + value[at + 1:], value[:at] + (part,) + value[at:], value[:at] + value[at + 1:] + (part,)]
        found += [value[:at] + (other,) + value[at + 1:] for other in near_values(part)]
    return found


def is_int(value, low=None, high=None):
    """Whether value is an integer, and no bool, between these."""
    return type(value) is int and (low is None or low <= value) and (high is None or value <= high)


def is_climbing(value, low, high):
    """Whether value is a tuple of integers between these, each above the one ahead."""
    return type(value) is tuple and all(is_int(part, low, high) for part in value) and list(value) == sorted(set(value))
