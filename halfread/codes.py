"""Codes: the words that stand for the values of a counter."""

from halfread.checks import are_between, is_between, is_whole
from halfread.errors import NoCode, NoOrder, NoPlaces, NoText, NoValue, NoWord, NoWords

MOST_WORDS = 16
MOST_BITS = 5


class Code:
    """Words of equal length that stand for the values 0, 1 and so on."""

    def __init__(self, *words):
        if not are_words(words):
            raise NoWords("2 to 16 different words of the same length are required")
        self._words = words
        self._numbers = {word: value for value, word in enumerate(words)}
        # What may be read in windows that were asked for, by value and span.
        self.windows = {}

    @property
    def words(self):
        return self._words

    @property
    def bits(self):
        return len(self._words[0])

    def __len__(self):
        return len(self._words)

    def __call__(self, value):
        check_value(self, value)
        return self._words[value]

    def __getitem__(self, at):
        if not is_word(at, self.bits):
            raise NoWord("a word of the code's length is required")
        return self._numbers.get(at, -1)

    def __iter__(self):
        # Without this, Python would walk over the code by its __getitem__.
        raise TypeError("a code is not walked over")

    def __contains__(self, x):
        return is_word(x, self.bits) and x in self._numbers

    def __eq__(self, other):
        return isinstance(other, Code) and self._words == other._words

    def __neg__(self):
        words = self._words[:1] + self._words[:0:-1]
        return Code(*words)

    def __repr__(self):
        return f"Code({len(self._words)} values, {self.bits} bits)"

    def text(self):
        """A line of 0 and 1 for each word."""
        return "".join([spelled(word) + "\n" for word in self._words])

    @classmethod
    def read(cls, text):
        """The code with this text."""
        words = read_words(text)
        if not are_words(words):
            raise NoText("the text of a code is required")
        return Code(*words)


def is_word(thing, bits):
    """Whether any value is a word of so many bits."""
    return are_between(thing, bits, 0, 1)


def are_words(words):
    """Whether the things of a tuple are the words of a code."""
    if not 2 <= len(words) <= MOST_WORDS:
        return False
    first = words[0]
    if not isinstance(first, tuple) or not 1 <= len(first) <= MOST_BITS:
        return False
    return all([is_word(word, len(first)) for word in words]) and len(set(words)) == len(words)


def check_code(code):
    """Refuse what is no code."""
    if not isinstance(code, Code):
        raise NoCode("a code is required")


def check_value(code, value):
    """Refuse what is no value of the code."""
    if not is_between(value, 0, len(code.words) - 1):
        raise NoValue("a value of the code is required")


def spelled(word):
    """The bits of a word as a text."""
    return "".join([str(bit) for bit in word])


def read_words(text):
    """The words that a text has in its lines; none if it is not made of bits and lines."""
    if not isinstance(text, str) or not text.endswith("\n"):
        return ()
    lines = text[:-1].split("\n")
    if not all([bit in ("0", "1") for line in lines for bit in line]):
        return ()
    return tuple([tuple([int(bit) for bit in line]) for line in lines])


def turned(code, by):
    """The same ring of words, beginning with the word of the value by."""
    check_code(code)
    check_value(code, by)
    words = code.words[by:] + code.words[:by]
    return Code(*words)


def is_order(thing, bits):
    """Whether any value is a tuple of all places of words of so many bits."""
    if not isinstance(thing, tuple) or not all([is_whole(place) for place in thing]):
        return False
    return sorted(thing) == list(range(bits))


def moved(word, order):
    """The word with the bit at place k put to place order[k]."""
    bits = list(word)
    for bit, place in zip(word, order):
        bits[place] = bit
    return tuple(bits)


def renamed(code, order):
    """The code with its places in another order."""
    check_code(code)
    if not is_order(order, code.bits):
        raise NoOrder("a tuple of all places is required")
    words = [moved(word, order) for word in code.words]
    return Code(*words)


def are_places(thing, bits):
    """Whether any value is an ascending tuple of places of words of so many bits."""
    if not isinstance(thing, tuple) or not all([is_between(place, 0, bits - 1) for place in thing]):
        return False
    return all([low < high for low, high in zip(thing, thing[1:])])


def exchanged(word, places):
    """The word with the bits at these places exchanged."""
    return tuple([1 - bit if place in places else bit for place, bit in enumerate(word)])


def flipped(code, places):
    """The code with 0 and 1 exchanged at some places."""
    check_code(code)
    if not are_places(places, code.bits):
        raise NoPlaces("an ascending tuple of places is required")
    words = [exchanged(word, places) for word in code.words]
    return Code(*words)


def column(code, place):
    """How the bit at a place differs from that of the value 0, for each value."""
    start = code.words[0][place]
    return [word[place] ^ start for word in code.words]


def fitting_order(one, other):
    """The smallest order that renames one, perhaps flipped, to other; None if there is none."""
    order = []
    for place in range(one.bits):
        # Equal columns can stand for each other, so the first free one is never a wrong choice.
        free = [to for to in range(other.bits) if to not in order and column(other, to) == column(one, place)]
        if not free:
            return None
        order.append(free[0])
    return tuple(order)


def fitting_places(one, other, order):
    """The places to flip in one so that renaming it with order gives other."""
    start, goal = one(0), other(0)
    return tuple([place for place, to in enumerate(order) if start[place] != goal[to]])


def alike(one, other):
    """The smallest (begin, way, order, places) that makes other of one; None if there is none."""
    check_code(one)
    check_code(other)
    if len(one) != len(other) or one.bits != other.bits:
        return None
    for begin in range(len(one)):
        back = turned(other, -begin % len(one))
        for way in (-1, 1):
            goal = -back if way < 0 else back
            order = fitting_order(one, goal)
            if order is not None:
                return (begin, way, order, fitting_places(one, goal, order))
    return None
