"""Values of every kind that may be passed in, for the tests of wrong inputs."""

from oncebooked.entries import Bank, Batch
from oncebooked.interest import Accrual
from oncebooked.night import Run
from oncebooked.shelves import Shelf


def deep(kind):
    """A value nested 60 deep."""
    value = kind()
    for _ in range(59):
        value = kind([value])
    return value


def odd_values():
    """Any values, of which most are wrong for most parameters."""
    bank = Bank('branch a 1')
    run = Run(bank, (('batch 1 a 0 0',),))
    return [
        None, True, False, 0, 1, -1, 10 ** 39, -10 ** 39,
        '', 'a', 'abcdefghi', 'A', 'a1', 'a b', 'a.b', 'a\tb', 'a\nb', 'add', 'sync', '0', 'x' * 201,
        (), ('a',), ('sync',), ('a', 1), (1, 2, 3), (None,), ((),), (((), ()),), ('a', ()), (('a', 1),), ((1, ()),),
        [], ['a'], ['sync'], [('a', ())], [1], {}, {'a': ()}, {'a': 1}, {1: 2},
        Shelf(()), bank, Batch(bank, 'batch 1 a 0 0'), deep(tuple), deep(list), [Shelf(())], (bank,),
        run, run.branch_at('a'), Accrual(0), [run], (Accrual(0),),
    ]


def same(one, other):
    """Whether the values are equal, True not being 1, and of the same kinds throughout."""
    return repr(one) == repr(other) and one == other
