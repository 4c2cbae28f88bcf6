"""Single codes that are the smallest of their kind.

The smallest one always begins with the word of zeros, since flipping makes any other word that.
"""

from halfread.checks import check_number, check_span
from halfread.codes import Code
from halfread.readings import off

MOST_VALUES = 16
MOST_BITS = 4
MOST_SPAN = 2


def stepped(word, place):
    """The word with the bit at one place changed."""
    return (*word[:place], 1 - word[place], *word[place + 1:])


def fresh_places(words):
    """How many places have a 0 in all words."""
    return len([place for place in range(len(words[0])) if sum([word[place] for word in words]) == 0])


def next_words(words, left):
    """The words, ascending, that may come next in a ring in which so many are left to come."""
    last = words[-1]
    # Places come into use from the last one on, else renaming them would make the code smaller.
    start = max(0, fresh_places(words) - 1)
    steps = sorted([stepped(last, place) for place in range(start, len(last))])
    # Each 1 takes a step to change back on the way round.
    return [word for word in steps if word not in words and sum(word) <= left]


def grown(words, values, fits, closes):
    """The smallest ring of words that begins with these and of which each part fits, if it closes; or None."""
    if len(words) == values:
        return words if closes(words) else None
    for word in next_words(words, values - len(words)):
        longer = [*words, word]
        if fits(longer):
            ring = grown(longer, values, fits, closes)
            if ring is not None:
                return ring
    return None


def smallest(values, bits, fits, closes):
    """The smallest single code of which each part fits, and which closes; None if there is none."""
    if values % 2 == 1 or values > (1 << bits):
        return None
    ring = grown([(0,) * bits], values, fits, closes)
    return None if ring is None else Code(*ring)


def anything(words):
    """What lets all words pass."""
    return True


def most_changes(words):
    """How often the most often changing bit changes from word to word."""
    steps = list(zip(words, words[1:]))
    return max([sum([old[place] ^ new[place] for old, new in steps]) for place in range(len(words[0]))])


def is_clear(words):
    """Whether the words have none that lies across from the middle one of three in a row."""
    rows = list(zip(words, words[1:], words[2:]))
    across = [tuple([a ^ b ^ c for a, b, c in zip(*row)]) for row in rows]
    return not any([word in words for word in across])


def check_sizes(values, bits):
    """Refuse what is no number of values and of bits."""
    check_number(values, 2, MOST_VALUES)
    check_number(bits, 1, MOST_BITS)


def single(values, bits):
    """The smallest single code; None if there is none."""
    check_sizes(values, bits)
    return smallest(values, bits, anything, anything)


def evenly(values, bits):
    """The smallest single code whose most often changing bit changes least often; None if there is none."""
    check_sizes(values, bits)
    # Round the ring each bit changes an even number of times, so only even numbers are tried,
    # and the step that closes a ring never brings one above the number.
    for most in range(2, values + 1, 2):
        code = smallest(values, bits, lambda words: most_changes(words) <= most, anything)
        if code is not None:
            return code
    return None


def noticing(values, bits, span):
    """The smallest single code that is off by 0 with this span; None if there is none."""
    check_sizes(values, bits)
    check_span(span, MOST_SPAN)
    fits = is_clear if span == 2 else anything
    return smallest(values, bits, fits, lambda words: off(Code(*words), span) == 0)


def longest(bits, span):
    """The greatest number of values of a code that noticing finds."""
    check_number(bits, 1, MOST_BITS)
    check_span(span, MOST_SPAN)
    values = 1 << bits
    while noticing(values, bits, span) is None:
        values -= 2
    return values
