"""What counts as a number."""


def is_number(thing):
    """Whether this is a whole number; True and False are none, though Python counts them among its integers."""
    return isinstance(thing, int) and not isinstance(thing, bool)
