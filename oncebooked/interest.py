"""Interest to the last unit: reckoned in parts, so that nothing is ever lost by rounding.

A year of 365 days takes 366 parts for each millionth of a unit and day, one of 366 days takes 365.
"""

from math import gcd

from oncebooked.basics import are_ascending, is_integer, is_number, is_row
from oncebooked.errors import BadEnds, BadNumber, BadRest, BadStretch, BadStretches, BadTable, BadWeights, TooMany

PARTS = 1000000 * 365 * 366
MOST_RATE = 1000000
MOST_BALANCE = 10 ** 12
MOST_DAYS = 100000
MOST_STRETCHES = 1000
MOST_DAYS_TOLD = 20000
MOST_UNITS = 10 ** 12
MOST_SHARED = 10 ** 15
MOST_WEIGHTS = 1000
MOST_WEIGHT = 10 ** 12
MOST_CHANGES = 1000
MOST_ENDS = 1000


def is_stretch(value):
    """Whether value is a stretch (days, balance, rate, year)."""
    if not is_row(value, 4):
        return False
    days, balance, rate, year = value
    if not is_number(days, 1, MOST_DAYS) or not is_number(balance, -MOST_BALANCE, MOST_BALANCE):
        return False
    return is_number(rate, 0, MOST_RATE) and is_number(year, 365, 366)


def check_stretches(stretches):
    """Raises BadStretches unless stretches is a tuple of stretches."""
    if not isinstance(stretches, tuple) or len(stretches) > MOST_STRETCHES:
        raise BadStretches(None)
    for at, stretch in enumerate(stretches):
        if not is_stretch(stretch):
            raise BadStretches(at)


def check_rest(rest):
    """Raises BadRest unless rest is a rest."""
    if not is_number(rest, 0, PARTS - 1):
        raise BadRest(rest)


def parts_in(stretch):
    """How many parts the true interest of the stretch is."""
    days, balance, rate, year = stretch
    each = 366 if year == 365 else 365
    return days * max(balance, 0) * rate * each


def parts_of(stretches):
    """How many parts the true interest of all stretches is together."""
    check_stretches(stretches)
    return sum([parts_in(stretch) for stretch in stretches])


def true_interest(stretches):
    """The same as a pair (top, bottom), units as a fraction in lowest terms."""
    parts = parts_of(stretches)
    common = gcd(parts, PARTS)
    return (parts // common, PARTS // common)


class Accrual:
    """An account on which a rest is kept, and whole units are paid."""

    def __init__(self, rest):
        check_rest(rest)
        self.rest = rest
        self.paid = 0
        self.days = 0

    def go_on(self, stretch):
        """Lets the days of the stretch go by; how many units are paid."""
        if not is_stretch(stretch):
            raise BadStretch(stretch)
        units, self.rest = divmod(self.rest + parts_in(stretch), PARTS)
        self.paid += units
        self.days += stretch[0]
        return units

    def close(self):
        """Pays 1 unit for a rest of half a unit or more, and keeps none; how many units are paid."""
        units = 1 if 2 * self.rest >= PARTS else 0
        self.paid += units
        self.rest = 0
        return units

    def copy(self):
        """One that stands alike."""
        twin = Accrual(self.rest)
        twin.paid = self.paid
        twin.days = self.days
        return twin


def daily(stretches, rest):
    """The tuple of (units, rest) for each day, if interest is paid each day."""
    check_stretches(stretches)
    check_rest(rest)
    days = sum([stretch[0] for stretch in stretches])
    if days > MOST_DAYS_TOLD:
        raise TooMany(days)
    told = []
    kept = rest
    for many, balance, rate, year in stretches:
        parts = parts_in((1, balance, rate, year))
        for _ in range(many):
            units, kept = divmod(kept + parts, PARTS)
            told.append((units, kept))
    return tuple(told)


def first_day(balance, rate, year, rest, units):
    """Behind how many days, all alike, so many units have been paid; None if never."""
    stretch = (1, balance, rate, year)
    if not is_stretch(stretch):
        raise BadStretch(stretch)
    check_rest(rest)
    if not is_number(units, 0, MOST_UNITS):
        raise BadNumber(units)
    if units == 0:
        return 0
    parts = parts_in(stretch)
    if parts == 0:
        return None
    # Rounded up: the last day has to be over.
    return -((rest - units * PARTS) // parts)


def split(amount, weights):
    """The tuple of the shares of the amount, one for each weight."""
    if not is_number(amount, 0, MOST_SHARED):
        raise BadNumber(amount)
    if not isinstance(weights, tuple) or not 1 <= len(weights) <= MOST_WEIGHTS:
        raise BadWeights(weights)
    if not all([is_number(weight, 0, MOST_WEIGHT) for weight in weights]) or sum(weights) == 0:
        raise BadWeights(weights)
    total = sum(weights)
    shares = []
    upto = 0
    given = 0
    for weight in weights:
        upto += weight
        shares.append(amount * upto // total - given)
        given = amount * upto // total
    return tuple(shares)


def is_change(value, day):
    """Whether value is a pair (day, value) of a table, behind this day."""
    return is_row(value, 2) and is_number(value[0], day + 1, MOST_DAYS) and is_integer(value[1])


def is_table(value):
    """Whether value is a table, of whatever integers."""
    if not isinstance(value, tuple) or not 1 <= len(value) <= MOST_CHANGES:
        return False
    day = -1
    for change in value:
        if not is_change(change, day):
            return False
        day = change[0]
    return value[0][0] == 0


def check_table(table, low, high):
    """Raises BadTable unless table is one of integers from low to high."""
    if not is_table(table) or not all([low <= value <= high for _, value in table]):
        raise BadTable(table)


def check_tables(balances, rates, years):
    """Raises BadTable for the first of the three that is no table of its kind."""
    check_table(balances, -MOST_BALANCE, MOST_BALANCE)
    check_table(rates, 0, MOST_RATE)
    check_table(years, 365, 366)


def place_at(table, day):
    """The place of the last part of the table that does not begin behind the day."""
    low = 0
    high = len(table)
    while high - low > 1:
        middle = (low + high) // 2
        if table[middle][0] <= day:
            low = middle
        else:
            high = middle
    return low


def value_at(table, day):
    """The value of the table on this day."""
    if not is_table(table):
        raise BadTable(table)
    if not is_number(day, 0, MOST_DAYS):
        raise BadNumber(day)
    return table[place_at(table, day)][1]


def told_together(balances, rates, years):
    """The list of (day, balance, rate, year) from which days on it is so, each unlike the one ahead of it."""
    days = {change[0]: True for table in (balances, rates, years) for change in table}
    rows = []
    for day in sorted(days):
        row = (day,) + tuple([table[place_at(table, day)][1] for table in (balances, rates, years)])
        if not rows or rows[-1][1:] != row[1:]:
            rows.append(row)
    return rows


def stretches_between(rows, begin, end):
    """The list of stretches from the day begin to the one ahead of end; raises TooMany."""
    found = []
    day = begin
    at = place_at(rows, begin)
    while day < end:
        after = min(rows[at + 1][0], end) if at + 1 < len(rows) else end
        found.append((after - day,) + rows[at][1:])
        day = after
        at += 1
    if len(found) > MOST_STRETCHES:
        raise TooMany(len(found))
    return found


def stretches_of(balances, rates, years, begin, end):
    """The fewest stretches that tell the days from begin on, up to the one ahead of end."""
    check_tables(balances, rates, years)
    if not is_number(begin, 0, MOST_DAYS):
        raise BadNumber(begin)
    if not is_number(end, begin, MOST_DAYS):
        raise BadNumber(end)
    return tuple(stretches_between(told_together(balances, rates, years), begin, end))


def are_ends(value):
    """Whether value is an ascending tuple of days at which interest can be paid in."""
    return are_ascending(value, 1, MOST_DAYS) and len(value) <= MOST_ENDS


def paid_in(balances, rates, years, ends, rest):
    """The tuple of (units, rest) for each end, the units being paid into the account itself."""
    check_tables(balances, rates, years)
    if not are_ends(ends):
        raise BadEnds(ends)
    check_rest(rest)
    rows = told_together(balances, rates, years)
    told = []
    begin = 0
    more = 0
    kept = rest
    for end in ends:
        found = stretches_between(rows, begin, end)
        if max([stretch[1] for stretch in found]) + more > MOST_BALANCE:
            raise BadTable(balances)
        parts = sum([parts_in((days, balance + more, rate, year)) for days, balance, rate, year in found])
        units, kept = divmod(kept + parts, PARTS)
        told.append((units, kept))
        more += units
        begin = end
    return tuple(told)
