"""What several tests share: values of wrong kinds, codes to go through, and plain counterparts of the program.

The counterparts follow the words of the document as directly as possible, over tuples of words instead of codes.
"""

import itertools
import random
import sys

from halfread.bridges import Bridge
from halfread.codes import Code
from halfread.crossings import Crossing
from halfread.errors import Broken, NoCode, ReadError, TooMany
from halfread.making import single

PLAIN = Code((0, 0), (0, 1), (1, 0), (1, 1))
GRAY = Code((0, 0), (0, 1), (1, 1), (1, 0))
TWO = Code((0,), (1,))
TWO_WIDE = Code((0, 1, 0, 1, 1), (1, 0, 0, 1, 0))
THREE = Code((1, 0), (0, 0), (0, 1))
JOHNSON = Code((0, 0, 0), (0, 0, 1), (0, 1, 1), (1, 1, 1), (1, 1, 0), (1, 0, 0))


def word_of(number, bits):
    return tuple((number >> (bits - 1 - place)) & 1 for place in range(bits))


SIXTEEN = Code(*[word_of(number, 4) for number in range(16)])
SIXTEEN_GRAY = Code(*[word_of(number ^ (number >> 1), 4) for number in range(16)])
SIXTEEN_WIDE = Code(*[word_of((number * 11 + 5) % 32, 5) for number in range(16)])

NAMED = [PLAIN, GRAY, TWO, TWO_WIDE, THREE, JOHNSON, SIXTEEN, SIXTEEN_GRAY, SIXTEEN_WIDE]


def some_codes(many, seed):
    """Codes of every number of words and of bits in turn, always the same for a seed."""
    source = random.Random(seed)
    sizes = [(values, bits) for bits in range(1, 6) for values in range(2, 17) if values <= 2 ** bits]
    codes = []
    for at in range(many):
        values, bits = sizes[at % len(sizes)]
        codes.append(Code(*[word_of(number, bits) for number in source.sample(range(2 ** bits), values)]))
    return codes


def nested(depth, inner):
    for _ in range(depth):
        inner = [inner]
    return inner


def no_integers():
    """Values of many kinds, none of them an integer."""
    return [
        None, True, False, "", "0", "1", "0 1\n", [], [0], [0, 1], [1], (), (0,), (1,), (0, 1), (True, False), {},
        {0: 1}, {"value": 0}, PLAIN, GRAY, Code, ReadError("none"), NoCode(), TooMany(3000), nested(20, 0),
        [0] * 7999, (None, "a", [{"b": (1, 2)}]),
    ]


def no_codes():
    """Values of many kinds, none of them a code."""
    return [thing for thing in no_integers() if not isinstance(thing, Code)] + [0, 1, 2, -1, 10 ** 12, PLAIN.words]


def no_integers_from(low, high):
    """Values of many kinds, none of them an integer from low to high."""
    return no_integers() + [low - 1, high + 1, -(10 ** 12), 10 ** 12, low - 16, high + 16]


def no_bridges():
    """Values of many kinds, none of them a bridge."""
    crossing = Crossing(Bridge(PLAIN, 2, 1, 1))
    return no_integers() + [0, 1, -1, Bridge, (PLAIN, 2, 1, 1, 1), crossing, [Bridge(PLAIN, 2, 1, 1)]]


def no_beats():
    """Values of many kinds, none of them a beat."""
    near = [(0, 0), (3, 0), (0, 3), (3, 3), (-1, 1), (1, -1), (True, 1), (1, True), (False, 1), (1, False), (1,), (1, 1, 1),
            [1, 1], ((1, 1),), (1, "1"), ("1", 1), (None, 1), (1, None), ((1,), 1), (1, [1]), "11", {1: 1}, (2, 10 ** 12)]
    return [thing for thing in no_integers() if not same(thing, (0, 1))] + near + [0, 1, 2, 11, Bridge(PLAIN, 2, 1, 1)]


def some_bridges(many, seed, most=16):
    """Bridges with codes of up to most values, among them many single ones, always the same for a seed."""
    source = random.Random(seed)
    bridges = []
    for at, code in enumerate([code for code in some_codes(4 * many, seed) if len(code) <= most][:many]):
        if at % 3 == 0 and len(code) % 2 == 0 and code.bits < 5:
            code = single(len(code), code.bits)
        late = source.choice([(1, 1), (1, 2), (2, 1), (2, 2), (1, 3), (3, 1), (3, 3)])
        bridges.append(Bridge(code, source.randint(1, len(code) - 1), *late, source.choice([1, 2, 3])))
    return bridges


def some_states(bridge, many, source):
    """States of any form, also such as never come up."""
    last = len(bridge.code) - 1

    def some(length, low, high):
        return tuple(source.randint(low, high) for _ in range(length))

    return [
        (*some(2, 0, last), some(bridge.ahead, -1, last), some(bridge.behind, -1, last), some(bridge.slow - 1, 0, 1),
         some(bridge.slow - 1, 0, 1))
        for _ in range(many)
    ]


def answer_of(ask):
    """What is returned, or the class of the exception and what it has."""
    try:
        return ask()
    except TooMany as why:
        return TooMany, why.limit
    except Broken as why:
        return Broken, why.kind


def calls_of(ask):
    """How many functions of Python are called."""
    calls = []
    sys.setprofile(lambda frame, event, arg: calls.append(event) if event == "call" else None)
    try:
        ask()
    finally:
        sys.setprofile(None)
    return len(calls)


# The counterparts.

def same(one, other):
    """Whether two values are equal and of the same kinds throughout."""
    if one.__class__ is not other.__class__:
        return False
    if isinstance(one, (tuple, list)):
        return len(one) == len(other) and all(same(a, b) for a, b in zip(one, other))
    return one == other


def window(words, value, span):
    return [(value + step) % len(words) for step in range(span + 1)]


def readings_of(words, value, span):
    inside = [words[at] for at in window(words, value, span)]
    bits = range(len(words[0]))
    return tuple(
        word for word in itertools.product((0, 1), repeat=len(words[0]))
        if all(any(word[place] == other[place] for other in inside) for place in bits)
    )


def steps_between(words, one, other):
    steps = 0
    while (one + steps) % len(words) != other and (one - steps) % len(words) != other:
        steps += 1
    return steps


def off_readings(words, span):
    """All (by how much, value, word) in their order, also those that are off by 0, without what is noticed."""
    return [
        (min(steps_between(words, words.index(word), at) for at in window(words, value, span)), value, word)
        for value in range(len(words)) for word in readings_of(words, value, span) if word in words
    ]


def greatest_off(words, span):
    return max(by for by, _, _ in off_readings(words, span))


def holes_of(words, span):
    return sum(
        word not in words for value in range(len(words)) for word in readings_of(words, value, span)
    )


def turned_words(words, by):
    return tuple(words[(at + by) % len(words)] for at in range(len(words)))


def back_words(words):
    return tuple(words[-at % len(words)] for at in range(len(words)))


def renamed_words(words, order):
    return tuple(tuple(word[order.index(place)] for place in range(len(order))) for word in words)


def flipped_words(words, places):
    return tuple(tuple((bit + places.count(place)) % 2 for place, bit in enumerate(word)) for word in words)


def all_places(bits):
    return sorted(
        places for many in range(bits + 1) for places in itertools.combinations(range(bits), many)
    )


def made_of(words, how):
    begin, way, order, places = how
    words = renamed_words(flipped_words(words, places), order)
    return turned_words(back_words(words) if way == -1 else words, begin)


def first_alike(one, other):
    if len(one) != len(other) or len(one[0]) != len(other[0]):
        return None
    orders = list(itertools.permutations(range(len(one[0]))))
    for how in itertools.product(range(len(one)), (-1, 1), orders, all_places(len(one[0]))):
        if made_of(one, how) == other:
            return how
    return None


def changing(words):
    """How often the bit at each place changes round the ring."""
    ring = list(words) + [words[0]]
    return [sum(a[place] != b[place] for a, b in zip(ring, ring[1:])) for place in range(len(words[0]))]


def all_rings(bits):
    """All single codes of words of so many bits that begin with zeros, by the number of their words."""
    found = {values: [] for values in range(2, 17)}
    path = [0]

    def grow():
        if len(path) > 1 and path[-1].bit_count() == 1:
            found[len(path)].append(tuple(word_of(number, bits) for number in path))
        for place in range(bits):
            number = path[-1] ^ (1 << place)
            if number not in path:
                path.append(number)
                grow()
                path.pop()

    grow()
    return found
