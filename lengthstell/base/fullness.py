"""The full count: the greatest rank that a placing of some pins can have."""


def full_count(many, space):
    """The full count of a number of pins, which is at least 1, in a space."""
    if many == 1:
        return 0
    if space == 1:
        return many - 1
    return 2 * many - 3
