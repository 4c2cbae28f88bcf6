"""Readings of a counter while it steps, and how far off they are."""

from halfread.checks import check_span, is_between
from halfread.codes import check_code, check_value

MOST_SPAN = 4
# How many words have any bits at the places of the bits that are 1 in a number.
MANY = (1, 2, 2, 4, 2, 4, 4, 8, 2, 4, 4, 8, 4, 8, 8, 16, 2, 4, 4, 8, 4, 8, 8, 16, 4, 8, 8, 16, 8, 16, 16, 32)


def window_of(code, value, span):
    """The words of the values of the window, once for each step."""
    return (code.words * (span + 1))[value:value + span + 1]


def mixtures(words):
    """The ascending tuple of the words that have each bit from one of these."""
    found = [()]
    for bits in zip(*words):
        if 0 not in bits:
            found = [(*start, 1) for start in found]
        elif 1 not in bits:
            found = [(*start, 0) for start in found]
        else:
            found = [(*start, bit) for start in found for bit in (0, 1)]
    return tuple(found)


def seen(code, value, span):
    """What readings returns, of arguments that are checked."""
    if (value, span) not in code.windows:
        code.windows[(value, span)] = mixtures(window_of(code, value, span))
    return code.windows[(value, span)]


def mixes(code, value):
    """The words that may be read while the counter steps from a value."""
    check_code(code)
    check_value(code, value)
    return seen(code, value, 1)


def changes(code, value):
    """The places that change when the counter steps from a value."""
    check_code(code)
    check_value(code, value)
    old, new = window_of(code, value, 1)
    return tuple([place for place in range(code.bits) if old[place] != new[place]])


def is_single(code):
    """Whether one bit changes at each step."""
    check_code(code)
    return all([len(changes(code, value)) == 1 for value in range(len(code))])


def readings(code, value, span):
    """The words that may be read in the window of a value."""
    check_code(code)
    check_value(code, value)
    check_span(span, MOST_SPAN)
    return seen(code, value, span)


def numbers_of(code):
    """The words of the code as numbers, the bit at place 0 counting most."""
    numbers = []
    for word in code.words:
        number = 0
        for bit in word:
            number = 2 * number + bit
        numbers.append(number)
    return numbers


def fixed_and_free(numbers, value, span):
    """The bits that are 1 throughout a window, and the bits that differ in it, as two numbers."""
    both = either = numbers[value]
    for step in range(1, span + 1):
        number = numbers[(value + step) % len(numbers)]
        both = both & number
        either = either | number
    return both, both ^ either


def seen_values(numbers, value, span):
    """The ascending values of the code whose words are readings in the window of a value."""
    fixed, free = fixed_and_free(numbers, value, span)
    either = fixed | free
    return [at for at, number in enumerate(numbers) if number | free == either]


def gaps_from(values, span):
    """How far a value is from a window, by the steps that it is ahead of the window's first value."""
    return [max(0, min(ahead - span, values - ahead)) for ahead in range(values)]


def all_off(code, span):
    """A triple (by how much, value, value read) for each reading that is off."""
    numbers = numbers_of(code)
    gaps = gaps_from(len(code), span)
    # An index below 0 counts from the end of the gaps, and so goes on round the ring.
    return [
        (gaps[at - value], value, at)
        for value in range(len(numbers)) for at in seen_values(numbers, value, span) if gaps[at - value] > 0
    ]


def most_off(code, span):
    """What off returns, of arguments that are checked."""
    return max([by for by, _, _ in all_off(code, span)], default=0)


def off(code, span):
    """The greatest number by which a reading is off."""
    check_code(code)
    check_span(span, MOST_SPAN)
    return most_off(code, span)


def far_off(code, span):
    """The first (value, word) that is off by the greatest number; None if that is 0."""
    check_code(code)
    check_span(span, MOST_SPAN)
    rows = all_off(code, span)
    most = max([by for by, _, _ in rows], default=0)
    return min([(value, code.words[at]) for by, value, at in rows if by == most], default=None)


def off_by(code, span, value, at):
    """How far the word of the value at is off when it is read in the window of a value; 0 if it cannot be read so."""
    if at not in seen_values(numbers_of(code), value, span):
        return 0
    gaps = gaps_from(len(code), span)
    return gaps[at - value]


def shows_off(code, span, thing):
    """Whether any value shows by how much readings are off, as far_off does."""
    check_code(code)
    check_span(span, MOST_SPAN)
    if thing is None:
        return most_off(code, span) == 0
    if not isinstance(thing, tuple) or len(thing) != 2:
        return False
    value, word = thing
    if not is_between(value, 0, len(code) - 1) or word not in code:
        return False
    by = off_by(code, span, value, code[word])
    # The greatest number takes longest to tell, and most things fail without it.
    return by > 0 and by == most_off(code, span)


def tolerance(code):
    """The greatest span up to which no reading is off."""
    check_code(code)
    for span in range(1, MOST_SPAN + 1):
        if most_off(code, span) > 0:
            return span - 1
    return MOST_SPAN


def holes_at(numbers, value, span):
    """How many readings in the window of a value are no word of the code."""
    _, free = fixed_and_free(numbers, value, span)
    return MANY[free] - len(seen_values(numbers, value, span))


def holes(code, span):
    """How many pairs (value, word) have a reading that is no word of the code."""
    check_code(code)
    check_span(span, MOST_SPAN)
    numbers = numbers_of(code)
    return sum([holes_at(numbers, value, span) for value in range(len(numbers))])


def values_in(numbers, fixed, free):
    """What may be read, of the bits that are 1 and those that differ: values, ahead of them -1 for anything else."""
    either = fixed | free
    found = [at for at, number in enumerate(numbers) if number | free == either]
    return found if len(found) == MANY[free] else [-1, *found]


def values_told(code, spans):
    """What may be read in each window with a span from 0 on: by the span and the last value of the window."""
    numbers = numbers_of(code)
    size = len(numbers)
    told = [[[value] for value in range(size)] for _ in range(spans + 1)]
    for last in range(size):
        both = either = numbers[last]
        for span in range(1, spans + 1):
            number = numbers[(last - span) % size]
            both = both & number
            either = either | number
            told[span][last] = values_in(numbers, both, both ^ either)
    return told
