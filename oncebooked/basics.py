"""What all sections ask of values: integers, names, accounts, numbers in texts."""

MOST_LETTERS = 8
# Far above every number of a text, and far below what int() takes.
MOST_FIGURES = 40


def is_integer(value):
    """Whether value is an int that is not a bool."""
    return isinstance(value, int) and not isinstance(value, bool)


def is_number(value, low, high):
    """Whether value is an integer from low to high."""
    return is_integer(value) and low <= value <= high


def is_word(value, most):
    """Whether value is a string of one to so many letters a to z."""
    if not isinstance(value, str) or not 1 <= len(value) <= most:
        return False
    return value.isascii() and value.isalpha() and value.islower()


def is_name(value):
    """Whether value is a string of one to eight letters a to z."""
    return is_word(value, MOST_LETTERS)


def is_account(value):
    """Whether value is a string BRANCH.NAME of two names."""
    if not isinstance(value, str):
        return False
    parts = value.split(".")
    return len(parts) == 2 and is_name(parts[0]) and is_name(parts[1])


def is_row(value, many):
    """Whether value is a tuple of just so many parts."""
    return isinstance(value, tuple) and len(value) == many


def ascends(row):
    """Whether each part of the row is greater than the one ahead of it."""
    return all([row[at - 1] < row[at] for at in range(1, len(row))])


def are_ascending(value, low, high):
    """Whether value is a tuple of ascending integers from low to high, each once."""
    return isinstance(value, tuple) and all([is_number(part, low, high) for part in value]) and ascends(value)


def number_in(word, low, high):
    """The integer from low to high that word writes as Python writes it; None if it writes none."""
    figures = word[1:] if word.startswith("-") else word
    if len(figures) > MOST_FIGURES or not figures.isascii() or not figures.isdigit():
        return None
    number = int(word)
    if str(number) != word or not low <= number <= high:
        return None
    return number
