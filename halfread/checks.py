"""Checks of arguments that need no code to be told."""

from halfread.errors import NoNumber, NoSpan


def is_whole(thing):
    """Whether any value is an integer; a bool is an int for Python, but none here."""
    return isinstance(thing, int) and not isinstance(thing, bool)


def is_between(thing, low, high):
    """Whether any value is an integer from low to high."""
    return isinstance(thing, int) and not isinstance(thing, bool) and low <= thing <= high


def are_between(thing, many, low, high):
    """Whether any value is a tuple of so many integers from low to high."""
    return isinstance(thing, tuple) and len(thing) == many and all([is_between(part, low, high) for part in thing])


def check_number(number, low, high):
    """Refuse what is no integer from low to high."""
    if not is_between(number, low, high):
        raise NoNumber(f"an integer from {low} to {high} is required")


def check_span(span, high):
    """Refuse what is no span up to high."""
    if not is_between(span, 0, high):
        raise NoSpan(f"a span from 0 to {high} is required")
