"""Plain values: numbers, sets, tuples of so many, and lists made tuples."""


def frozen(value):
    """The same value with a tuple in the place of each list, at any depth."""
    if isinstance(value, (list, tuple)):
        return tuple([frozen(part) for part in value])
    return value


def is_number(value):
    """Whether it is an int; True and False are none."""
    return isinstance(value, int) and not isinstance(value, bool)


def is_tuple(value, length):
    """Whether it is a tuple of so many."""
    return isinstance(value, tuple) and len(value) == length


def are_numbers(value):
    """Whether it is a tuple of numbers alone, of any length."""
    return isinstance(value, tuple) and all([is_number(part) for part in value])


def ascends(row):
    """Whether each one is less than the next one."""
    return all([one < other for one, other in zip(row, row[1:])])


def is_set(value):
    """Whether it is an ascending tuple of numbers."""
    return are_numbers(value) and ascends(value)


def is_lot(value, many):
    """Whether it is a set of PLACES below many."""
    return is_set(value) and all([0 <= place < many for place in value])


def choices(items, many):
    """The list of all tuples of so many of these items, in their order."""
    if many == 0:
        return [()]
    found = []
    if 0 < many <= len(items):
        for at in range(len(items) - many + 1):
            for rest in choices(items[at + 1:], many - 1):
                found.append((items[at],) + rest)
    return found
