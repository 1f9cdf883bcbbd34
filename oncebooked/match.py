"""Two books beside each other: how they differ, what corrects it, which notes make up a sum, and slips in amounts."""

from oncebooked.basics import are_ascending, is_integer, is_number, is_row, is_word
from oncebooked.errors import BadAmount, BadChanges, BadNotes, TooLong, TooMany

MOST_NOTES = 200
MOST_LETTERS = 12
MOST_AMOUNT = 10 ** 12
MOST_FOR_ALL_LOTS = 20
MOST_FOR_A_LOT = 24
MOST_LOTS = 1000


def is_amount(value):
    """Whether value is an amount that a note can have."""
    return is_number(value, -MOST_AMOUNT, MOST_AMOUNT) and value != 0


def is_note(value):
    """Whether value is a note (word, amount)."""
    return is_row(value, 2) and is_word(value[0], MOST_LETTERS) and is_amount(value[1])


def check_notes(notes):
    """Raises BadNotes unless notes is a book."""
    if not isinstance(notes, tuple) or len(notes) > MOST_NOTES or not all([is_note(note) for note in notes]):
        raise BadNotes(notes)


def check_both(one, other):
    """Raises BadNotes for the first of the two that is no book."""
    check_notes(one)
    check_notes(other)


def places_of(notes):
    """A dict from each note to the list of its numbers."""
    places = {}
    for at, note in enumerate(notes):
        places.setdefault(note, []).append(at)
    return places


def pairs_of(one, other):
    """What paired tells of two books."""
    places = places_of(other)
    pairs = []
    mine = []
    for at, note in enumerate(one):
        if places.get(note):
            pairs.append((at, places[note].pop(0)))
        else:
            mine.append(at)
    its = sorted([at for note in places for at in places[note]])
    return tuple(pairs), tuple(mine), tuple(its)


def paired(one, other):
    """(pairs, mine, its): the numbers of equal notes of both, and those of the notes that have no partner."""
    check_both(one, other)
    return pairs_of(one, other)


def difference(one, other):
    """The sum of the amounts of one less that of other."""
    check_both(one, other)
    return sum([note[1] for note in one]) - sum([note[1] for note in other])


def repeated(notes):
    """The ascending tuple of (note, many) for each note that stands there more than once."""
    check_notes(notes)
    places = places_of(notes)
    return tuple([(note, len(places[note])) for note in sorted(places) if len(places[note]) > 1])


def is_change(one, value):
    """Whether value is a change for the book."""
    if is_row(value, 2) and value[0] == "add":
        return is_note(value[1])
    if not isinstance(value, tuple) or len(value) < 2 or not is_number(value[1], 0, len(one) - 1):
        return False
    word, amount = one[value[1]]
    if is_row(value, 2):
        return value[0] == "strike"
    if is_row(value, 3) and value[0] == "word":
        return is_word(value[2], MOST_LETTERS) and value[2] != word
    return is_row(value, 3) and value[0] == "amount" and is_amount(value[2]) and value[2] != amount


def are_changes(one, value):
    """Whether value is changes for the book."""
    if not isinstance(value, tuple) or not all([is_change(one, change) for change in value]):
        return False
    numbers = [change[1] for change in value if change[0] != "add"]
    if len(numbers) != len(set(numbers)):
        return False
    struck = [change for change in value if change[0] == "strike"]
    return len(one) - len(struck) + len(value) - len(numbers) <= MOST_NOTES


def corrected_by(one, changes):
    """The book behind these changes."""
    rows = {at: note for at, note in enumerate(one)}
    added = []
    for change in changes:
        if change[0] == "add":
            added.append(change[1])
        elif change[0] == "strike":
            del rows[change[1]]
        elif change[0] == "word":
            rows[change[1]] = (change[2], one[change[1]][1])
        else:
            rows[change[1]] = (one[change[1]][0], change[2])
    return tuple(list(rows.values()) + added)


def corrected(one, changes):
    """The book behind these changes."""
    check_notes(one)
    if not are_changes(one, changes):
        raise BadChanges(changes)
    return corrected_by(one, changes)


def way_to_free(at, likes, partners):
    """A row of pairs (mine, its), backwards from one of its without a partner to the number at; [] if there is none.

    Each its but the first one has the mine ahead of it for a partner, until all of them are paired anew.
    """
    froms = {}
    through = {at: None}
    front = [at]
    while front:
        later = []
        for mine in front:
            for its in likes[mine]:
                if its in froms:
                    continue
                froms[its] = mine
                if its not in partners:
                    return row_back(its, froms, through)
                through[partners[its]] = its
                later.append(partners[its])
        front = later
    return []


def row_back(free, froms, through):
    """The row of pairs from this one of its back to the begin."""
    row = []
    its = free
    while its is not None:
        row.append((froms[its], its))
        its = through[froms[its]]
    return row


def most_pairs(mine, its, one, other):
    """A dict from numbers of its to numbers of mine: as many pairs of notes as can be that share word or amount."""
    likes = {at: [to for to in its if shares(one[at], other[to])] for at in mine}
    partners = {}
    for at in mine:
        row = way_to_free(at, likes, partners)
        for number, to in row:
            partners[to] = number
    return partners


def shares(note, other):
    """Whether the notes have the same word or the same amount."""
    return note[0] == other[0] or note[1] == other[1]


def change_to(at, note, other):
    """The change by which the note with the number at, which shares word or amount with other, becomes other."""
    if note[0] == other[0]:
        return ("amount", at, other[1])
    return ("word", at, other[0])


def corrections_of(one, other):
    """Right corrections for both with as few changes as can be."""
    _, mine, its = pairs_of(one, other)
    partners = most_pairs(mine, its, one, other)
    changed = {partners[to]: to for to in partners}
    changes = []
    for at in mine:
        if at in changed:
            changes.append(change_to(at, one[at], other[changed[at]]))
        else:
            changes.append(("strike", at))
    return tuple(changes + [("add", other[to]) for to in its if to not in partners])


def least_corrections(one, other):
    """Right corrections for both with as few changes as can be."""
    check_both(one, other)
    return corrections_of(one, other)


def corrections_many(one, other):
    """How few changes right corrections for both can have."""
    check_both(one, other)
    return len(corrections_of(one, other))


def shows_corrections(one, other, value):
    """Whether any value is what least_corrections may return."""
    check_both(one, other)
    if not are_changes(one, value) or len(value) != len(corrections_of(one, other)):
        return False
    return sorted(corrected_by(one, value)) == sorted(other)


def check_lots(notes, amount, most):
    """Raises BadNotes, BadAmount, or TooLong if the book has more notes than most."""
    check_notes(notes)
    if not is_integer(amount):
        raise BadAmount(amount)
    if len(notes) > most:
        raise TooLong(len(notes))


def lots_between(notes, begin, end):
    """The list of (sum, lot) for all lots of the notes with numbers from begin on, up to the one ahead of end."""
    rows = [(0, ())]
    for at in range(begin, end):
        rows = rows + [(total + notes[at][1], lot + (at,)) for total, lot in rows]
    return rows


def halves(notes):
    """What lots_between tells of the first half of the book, and of the rest: each lot is one of each together."""
    middle = len(notes) // 2
    return lots_between(notes, 0, middle), lots_between(notes, middle, len(notes))


def lots_with(notes, amount):
    """The ascending tuple of all lots with this sum."""
    check_lots(notes, amount, MOST_FOR_ALL_LOTS)
    first, rest = halves(notes)
    by_sum = {}
    for total, lot in rest:
        by_sum.setdefault(total, []).append(lot)
    many = sum([len(by_sum.get(amount - total, ())) for total, _ in first])
    if many > MOST_LOTS:
        raise TooMany(MOST_LOTS)
    return tuple(sorted([lot + more for total, lot in first for more in by_sum.get(amount - total, ())]))


def lot_found(notes, amount):
    """A lot, other than (), with this sum; None if there is none."""
    first, rest = halves(notes)
    # Of lots with the same sum the last one is kept: so () only if it is the only one with the sum 0.
    by_sum = {total: lot for total, lot in rest}
    for total, lot in first:
        more = by_sum.get(amount - total)
        if more is not None and lot + more != ():
            return lot + more
    return None


def a_lot(notes, amount):
    """Any lot, other than (), with this sum; None if there is none."""
    check_lots(notes, amount, MOST_FOR_A_LOT)
    return lot_found(notes, amount)


def shows_lot(notes, amount, value):
    """Whether any value is what a_lot may return."""
    check_lots(notes, amount, MOST_FOR_A_LOT)
    if value is None:
        return lot_found(notes, amount) is None
    if not are_ascending(value, 0, len(notes) - 1) or value == ():
        return False
    return sum([notes[at][1] for at in value]) == amount


def near_sums(notes, amount):
    """The greatest sum of a lot that is amount or less, and the least that is amount or more; None for none."""
    check_lots(notes, amount, MOST_FOR_A_LOT)
    first, rest = halves(notes)
    sums = sorted([total for total, _ in rest])
    below = []
    above = []
    at = len(sums)
    for total in sorted([part for part, _ in first]):
        # The greater the one part is, the lesser the other one has to be.
        while at > 0 and total + sums[at - 1] > amount:
            at -= 1
        if at > 0:
            below.append(total + sums[at - 1])
        if at < len(sums):
            above.append(total + sums[at])
    least = max(below, default=None)
    return least, amount if least == amount else min(above, default=None)


def is_digit_slip(amount, its):
    """Whether both have as many figures, and just one is another one."""
    one, other = str(amount), str(its)
    return len(one) == len(other) and len([at for at in range(len(one)) if one[at] != other[at]]) == 1


def is_swap(amount, its):
    """Whether its comes about if two unlike figures of amount that are side by side change places."""
    signs = str(amount)
    for at in range(1, len(signs)):
        swapped = int(signs[:at - 1] + signs[at] + signs[at - 1] + signs[at + 1:])
        if signs[at] != signs[at - 1] and swapped == its:
            return True
    return False


def slips_between(amount, its):
    """The ascending tuple of the words for what went wrong with the amount."""
    if amount == -its:
        return ("sign",)
    if (amount < 0) != (its < 0):
        return ()
    one, other = abs(amount), abs(its)
    words = []
    if is_digit_slip(one, other):
        words.append("digit")
    if one == 10 * other or other == 10 * one:
        words.append("shift")
    if is_swap(one, other):
        words.append("swapped")
    if one == 2 * other or other == 2 * one:
        words.append("twice")
    return tuple(words)


def slips_of(amount, its):
    """The ascending tuple of the words for what went wrong, amount being what should stand there."""
    if not is_amount(amount):
        raise BadAmount(amount)
    if not is_amount(its):
        raise BadAmount(its)
    return slips_between(amount, its)


def slips_in(one, other):
    """The ascending tuple of (number in one, number in other, words) for notes with the same word and a slip."""
    check_both(one, other)
    _, mine, its = pairs_of(one, other)
    found = []
    for at in mine:
        for to in its:
            words = slips_between(one[at][1], other[to][1]) if one[at][0] == other[to][0] else ()
            if words != ():
                found.append((at, to, words))
    return tuple(found)
