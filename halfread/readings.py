"""Readings of a counter while it steps, and how far off they are."""

from halfread.checks import check_span, is_between
from halfread.codes import check_code, check_value, is_word

MOST_SPAN = 4


def window_of(code, value, span):
    """The values of the window, once for each step."""
    return [(value + step) % len(code) for step in range(span + 1)]


def mixtures(words):
    """The ascending tuple of the words that have each bit from one of these."""
    found = [()]
    for place in range(len(words[0])):
        bits = sorted({word[place] for word in words})
        found = [(*start, bit) for start in found for bit in bits]
    return tuple(found)


def seen(code, value, span):
    """What readings returns, of arguments that are checked."""
    return mixtures([code(at) for at in window_of(code, value, span)])


def mixes(code, value):
    """The words that may be read while the counter steps from a value."""
    check_code(code)
    check_value(code, value)
    return seen(code, value, 1)


def changes(code, value):
    """The places that change when the counter steps from a value."""
    check_code(code)
    check_value(code, value)
    old, new = [code(at) for at in window_of(code, value, 1)]
    return tuple([place for place in range(code.bits) if old[place] != new[place]])


def is_single(code):
    """Whether one bit changes at each step."""
    check_code(code)
    return all([len(changes(code, value)) == 1 for value in range(len(code))])


def readings(code, value, span):
    """The words that may be read in the window of a value."""
    check_code(code)
    check_value(code, value)
    check_span(span, MOST_SPAN)
    return seen(code, value, span)


def distance(code, one, other):
    """The least number of steps between two values, either way round the ring."""
    return min((one - other) % len(code), (other - one) % len(code))


def off_by(code, span, value, word):
    """How far a reading is off in the window of a value; what is noticed is not off."""
    at = code[word]
    if at < 0:
        return 0
    return min([distance(code, at, inside) for inside in window_of(code, value, span)])


def all_seen(code, span):
    """All pairs (value, word) with a reading, in ascending order."""
    return [(value, word) for value in range(len(code)) for word in seen(code, value, span)]


def off(code, span):
    """The greatest number by which a reading is off."""
    check_code(code)
    check_span(span, MOST_SPAN)
    return max([off_by(code, span, value, word) for value, word in all_seen(code, span)])


def far_off(code, span):
    """The first (value, word) that is off by the greatest number; None if that is 0."""
    most = off(code, span)
    if most == 0:
        return None
    far = [(value, word) for value, word in all_seen(code, span) if off_by(code, span, value, word) == most]
    return far[0]


def shows_off(code, span, thing):
    """Whether any value shows by how much readings are off, as far_off does."""
    most = off(code, span)
    if most == 0:
        return thing is None
    if not isinstance(thing, tuple) or len(thing) != 2:
        return False
    value, word = thing
    if not is_between(value, 0, len(code) - 1) or not is_word(word, code.bits):
        return False
    return word in seen(code, value, span) and off_by(code, span, value, word) == most


def tolerance(code):
    """The greatest span up to which no reading is off."""
    check_code(code)
    for span in range(1, MOST_SPAN + 1):
        if off(code, span) > 0:
            return span - 1
    return MOST_SPAN


def holes(code, span):
    """How many pairs (value, word) have a reading that is no word of the code."""
    check_code(code)
    check_span(span, MOST_SPAN)
    return len([word for value, word in all_seen(code, span) if word not in code])
