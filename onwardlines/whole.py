"""Whole numbers: what counts as one, headways that fit, decimal digits."""

BLOCK_DIGITS = 60
BLOCK = 10 ** 60


def is_integer(thing):
    """Return whether an object is an integer and no boolean."""
    return isinstance(thing, int) and not isinstance(thing, bool)


def all_fit(headways):
    """Return whether of any two headways of a list one divides the other."""
    # In ascending order it is enough that each one divides the next.
    ordered = sorted(headways)
    return all([great % small == 0 for small, great in zip(ordered, ordered[1:])])


def written(number):
    """Return the decimal digits of an integer that is not below 0."""
    # Python's own str refuses integers of more than 4300 digits.
    blocks = []
    while number >= BLOCK:
        number, block = divmod(number, BLOCK)
        blocks.append(str(block).zfill(BLOCK_DIGITS))
    blocks.append(str(number))
    return "".join(blocks[::-1])


def is_below(thing, bound):
    """Return whether an object is an integer from 0 to a bound less 1."""
    return is_integer(thing) and 0 <= thing < bound
