"""Integers, names, lots, pairs and spaces: what the arguments are made of."""

MAX_DIGITS = 2000
MAX_LETTERS = 4
# Numbers of so many bits have fewer than 2000 digits.
SURE_BITS = 6000


def is_integer(value):
    """Whether the value is an integer of at most 2000 digits; True and False are none."""
    return isinstance(value, int) and not isinstance(value, bool) and has_digits(value, MAX_DIGITS)


def are_integers(values):
    """Whether all of some values are integers of at most 2000 digits."""
    for value in values:
        # Most often all are plain and short, so that this is all that is asked.
        if type(value) is not int or value.bit_length() > SURE_BITS:
            return all([is_integer(each) for each in values])
    return True


def has_digits(number, most):
    """Whether a number has at most so many digits."""
    # Three bits are less than a digit, so the long comparison is seldom needed.
    return number.bit_length() <= 3 * most or abs(number) < _least_longer(most)


def _least_longer(digits):
    """The least number that has more than so many digits."""
    number = 1
    for _ in range(digits // 20):
        number = number * 10 ** 20
    for _ in range(digits - digits // 20 * 20):
        number = number * 10
    return number


def is_name(value):
    """Whether the value is a string of one to four letters a to z."""
    if not isinstance(value, str) or not 1 <= len(value) <= MAX_LETTERS:
        return False
    return all(["a" <= letter <= "z" for letter in value])


def are_names(value):
    """Whether the value is a tuple of names, in any order and perhaps with duplicates."""
    return isinstance(value, tuple) and all([is_name(name) for name in value])


def is_lot(value):
    """Whether the value is an ascending tuple of names."""
    return are_names(value) and is_ascending(value)


def is_pair(value):
    """Whether the value is an ascending pair of names."""
    return is_lot(value) and len(value) == 2


def is_space(value):
    """Whether the value is 1, the line, or 2, the plane."""
    return is_integer(value) and 1 <= value <= 2


def is_ascending(values):
    """Whether each of some values, all of one kind, is less than the next one."""
    return all([values[at] < values[at + 1] for at in range(len(values) - 1)])


def is_lot_among(values, value):
    """Whether the value is an ascending tuple of some of the values, perhaps empty."""
    return isinstance(value, tuple) and all([each in values for each in value]) and is_ascending(value)


def lots_by_length(values):
    """All tuples of some of the values, in their order, the shorter ones first.

    Those of equal length stand in the order of the values, if these ascend.
    """
    lots = [()]
    for value in values:
        lots = lots + [lot + (value,) for lot in lots]
    return [lot for _, lot in sorted([(len(lot), lot) for lot in lots])]
