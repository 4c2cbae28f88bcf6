"""Bridges: queues between a writer and a reader who see each other's counter late."""

from halfread.checks import check_number
from halfread.codes import check_code
from halfread.errors import NoBeat, NoBridge, NoState
from halfread.readings import values_told
from halfread.sides import sides_of

MOST_LATE = 3
MOST_SLOW = 3
BEATS = {
    (0, 1): True, (0, 2): True, (1, 0): True, (1, 1): True, (1, 2): True, (2, 0): True, (2, 1): True, (2, 2): True,
}


class Bridge:
    """A queue between two clocks, and how it goes on from each of its states."""

    def __init__(self, code, depth, ahead, behind, slow=1):
        check_code(code)
        check_number(depth, 1, len(code) - 1)
        check_late(ahead, behind)
        check_slow(slow)
        self._code = code
        self._depth = depth
        self._ahead = ahead
        self._behind = behind
        self._slow = slow
        self._size = len(code)
        self.told = values_told(code, slow)
        # What is worked out for many states at once is kept: the sides, and what comes up by the last lap.
        self.sides = ()
        self.courses = {}

    @property
    def code(self):
        return self._code

    @property
    def depth(self):
        return self._depth

    @property
    def ahead(self):
        return self._ahead

    @property
    def behind(self):
        return self._behind

    @property
    def slow(self):
        return self._slow

    def __call__(self, state, beat):
        if not has_form(self, state):
            raise NoState("a state of the bridge is required")
        if not is_beat(beat):
            raise NoBeat("a beat of at least one clock is required")
        return after(self, state, beat)

    def __eq__(self, other):
        return isinstance(other, Bridge) and numbers_and_code(self) == numbers_and_code(other)

    def __repr__(self):
        return f"Bridge(depth {self._depth}, {self._ahead} and {self._behind} beats late)"


def numbers_and_code(bridge):
    """What makes bridges equal."""
    return [bridge.depth, bridge.ahead, bridge.behind, bridge.slow, bridge.code]


def check_late(ahead, behind):
    """Refuse what is no number of beats by which the counters are seen late."""
    check_number(ahead, 1, MOST_LATE)
    check_number(behind, 1, MOST_LATE)


def check_slow(slow):
    """Refuse what is no number of ticks in which a step can be seen half done."""
    check_number(slow, 1, MOST_SLOW)


def check_bridge(bridge):
    """Refuse what is no bridge."""
    if not isinstance(bridge, Bridge):
        raise NoBridge("a bridge is required")


def is_beat(thing):
    """Whether any value is a beat."""
    if not isinstance(thing, tuple) or len(thing) != 2:
        return False
    writing, reading = thing
    if not isinstance(writing, int) or writing is True or writing is False:
        return False
    # Only what has the right kinds can be looked up, since True and 1 are the same key.
    return isinstance(reading, int) and reading is not True and reading is not False and thing in BEATS


def check_beat(beat):
    """Refuse what is no beat."""
    if not is_beat(beat):
        raise NoBeat("a beat of at least one clock is required")


def has_form(bridge, thing):
    """Whether any value has the form of a state of the bridge."""
    if not isinstance(thing, tuple) or len(thing) != 6:
        return False
    put, taken, looks, glances, puts, takes = thing
    if not isinstance(looks, tuple) or not isinstance(glances, tuple):
        return False
    if len(looks) != bridge._ahead or len(glances) != bridge._behind:
        return False
    size = bridge._size
    for part in (put, taken, *looks, *glances):
        if not isinstance(part, int) or part is True or part is False or part < -1 or part >= size:
            return False
    if put < 0 or taken < 0:
        return False
    return puts == takes == () if bridge._slow == 1 else are_steps(bridge, puts) and are_steps(bridge, takes)


def are_steps(bridge, thing):
    """Whether any value tells in which of the last ticks a counter stepped."""
    if not isinstance(thing, tuple) or len(thing) != bridge._slow - 1:
        return False
    for part in thing:
        if not isinstance(part, int) or part is True or part is False or part < 0 or part > 1:
            return False
    return True


def is_state(bridge, thing):
    """Whether any value is a state of the bridge."""
    check_bridge(bridge)
    return has_form(bridge, thing)


def first_state(bridge):
    """The state in which all is 0."""
    check_bridge(bridge)
    recent = (0,) * (bridge.slow - 1)
    return (0, 0, (0,) * bridge.ahead, (0,) * bridge.behind, recent, recent)


def fronted(told, seen):
    """What has been read, with each thing that may be read at its front, and without its last part."""
    kept = seen[:-1]
    return [(value, *kept) for value in told]


def after(bridge, state, beat):
    """What comes of a state by a beat: "full", "empty", or the ascending tuple of the states that may come."""
    put, taken, looks, glances, puts, takes = state
    writing, reading = beat
    size, depth, told = bridge._size, bridge._depth, bridge.told
    put_span = take_span = 0
    if writing == 2 and looks[-1] >= 0 and (put - looks[-1]) % size < depth:
        if (put - taken) % size >= depth:
            return "full"
        put_span = 1
    if reading == 2 and glances[-1] >= 0 and 1 <= (glances[-1] - taken) % size <= depth:
        if put == taken:
            return "empty"
        take_span = 1
        taken = (taken + 1) % size
    if put_span == 1:
        put = (put + 1) % size
    if bridge._slow > 1:
        puts, takes = (put_span, *puts), (take_span, *takes)
        put_span, take_span = sum(puts), sum(takes)
        puts, takes = puts[:-1], takes[:-1]
    all_looks = fronted(told[take_span][taken], looks) if writing > 0 else [looks]
    all_glances = fronted(told[put_span][put], glances) if reading > 0 else [glances]
    return tuple([(put, taken, look, glance, puts, takes) for look in all_looks for glance in all_glances])


def would_put(bridge, state):
    """Whether the writer puts a thing if it wishes to."""
    answer = after(bridge, state, (2, 0))
    return answer == "full" or answer[0][0] != state[0]


def both_sides(bridge):
    """The writer and the reader of the bridge in numbers, made when they are first asked for."""
    if not bridge.sides:
        bridge.sides = sides_of(bridge.told, bridge.depth, bridge.ahead, bridge.behind, bridge.slow)
    return bridge.sides


def number_of(bridge, thing):
    """The number of a state, the sum of its halves, or -1 if any value is none."""
    if not has_form(bridge, thing):
        return -1
    writer, reader = both_sides(bridge)
    put, taken, looks, glances, puts, takes = thing
    writing, reading = (put, looks, puts), (taken, glances, takes)
    # No half has the number 0, as what was read is never told by 0.
    number = writer.numbers.get(writing) or writer.number_of(writing)
    return number + (reader.numbers.get(reading) or reader.number_of(reading))


def states_of(bridge, numbers):
    """The states with these numbers."""
    writer, reader = both_sides(bridge)
    looking = writer.halves_of([number & writer.half for number in numbers])
    glancing = reader.halves_of([number & reader.half for number in numbers])
    return tuple([
        (put, taken, looks, glances, puts, takes)
        for (put, looks, puts), (taken, glances, takes) in zip(looking, glancing)
    ])
