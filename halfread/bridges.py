"""Bridges: queues between a writer and a reader who see each other's counter late."""

from halfread.checks import are_between, check_number
from halfread.codes import check_code
from halfread.errors import NoBeat, NoBridge, NoState
from halfread.readings import values_told

MOST_LATE = 3
MOST_SLOW = 3
NO_BEAT = -1


class Bridge:
    """A queue between two clocks, and how it goes on from each of its states."""

    def __init__(self, code, depth, ahead, behind, slow=1):
        check_code(code)
        check_number(depth, 1, len(code) - 1)
        check_late(ahead, behind)
        check_slow(slow)
        self._code = code
        self._depth = depth
        self._ahead = ahead
        self._behind = behind
        self._slow = slow
        self._told = [values_told(code, span) for span in range(slow + 1)]

    @property
    def code(self):
        return self._code

    @property
    def depth(self):
        return self._depth

    @property
    def ahead(self):
        return self._ahead

    @property
    def behind(self):
        return self._behind

    @property
    def slow(self):
        return self._slow

    def __call__(self, state, beat):
        check_state(self, state)
        check_beat(beat)
        draft = ticked(self, state, beat)
        return draft if isinstance(draft, str) else coming(self, draft)

    def __eq__(self, other):
        return isinstance(other, Bridge) and numbers_and_code(self) == numbers_and_code(other)

    def __repr__(self):
        return f"Bridge(depth {self._depth}, {self._ahead} and {self._behind} beats late)"


def numbers_and_code(bridge):
    """What makes bridges equal."""
    return [bridge.depth, bridge.ahead, bridge.behind, bridge.slow, bridge.code]


def check_late(ahead, behind):
    """Refuse what is no number of beats by which the counters are seen late."""
    check_number(ahead, 1, MOST_LATE)
    check_number(behind, 1, MOST_LATE)


def check_slow(slow):
    """Refuse what is no number of ticks in which a step can be seen half done."""
    check_number(slow, 1, MOST_SLOW)


def check_bridge(bridge):
    """Refuse what is no bridge."""
    if not isinstance(bridge, Bridge):
        raise NoBridge("a bridge is required")


def is_beat(thing):
    """Whether any value is a beat."""
    return are_between(thing, 2, 0, 2) and thing != (0, 0)


def check_beat(beat):
    """Refuse what is no beat."""
    if not is_beat(beat):
        raise NoBeat("a beat of at least one clock is required")


def has_form(bridge, thing):
    """Whether any value has the form of a state of the bridge."""
    if not isinstance(thing, tuple) or len(thing) != 6:
        return False
    last = len(bridge.code) - 1
    put, taken, looks, glances, puts, takes = thing
    if not are_between((put, taken), 2, 0, last):
        return False
    if not are_between(looks, bridge.ahead, -1, last) or not are_between(glances, bridge.behind, -1, last):
        return False
    return are_between(puts, bridge.slow - 1, 0, 1) and are_between(takes, bridge.slow - 1, 0, 1)


def check_state(bridge, state):
    """Refuse what is no state of the bridge."""
    if not has_form(bridge, state):
        raise NoState("a state of the bridge is required")


def is_state(bridge, thing):
    """Whether any value is a state of the bridge."""
    check_bridge(bridge)
    return has_form(bridge, thing)


def first_state(bridge):
    """The state in which all is 0."""
    check_bridge(bridge)
    recent = (0,) * (bridge.slow - 1)
    return (0, 0, (0,) * bridge.ahead, (0,) * bridge.behind, recent, recent)


def would_put(bridge, state, beat):
    """Whether the writer puts a thing, by what it has read alone."""
    put, look = state[0], state[2][-1]
    return beat[0] == 2 and look >= 0 and (put - look) % len(bridge.code) < bridge.depth


def would_take(bridge, state, beat):
    """Whether the reader takes a thing, by what it has read alone."""
    taken, glance = state[1], state[3][-1]
    return beat[1] == 2 and glance >= 0 and 1 <= (glance - taken) % len(bridge.code) <= bridge.depth


def breaks(bridge, state, putting, taking):
    """Which way a tick breaks the bridge; an empty text if it does not."""
    put, taken = state[:2]
    if putting and (put - taken) % len(bridge.code) >= bridge.depth:
        return "full"
    return "empty" if taking and put == taken else ""


def ticked(bridge, state, beat):
    """What a tick makes of a state before anything is read: "full", "empty" or a draft of the states that may come.

    A draft is like a state, but what has been read lacks the part that is to come to the front, and it ends with the
    numbers of steps of the reader's and of the writer's counter that can be seen half done, or NO_BEAT for who does
    not read. So states that have equal drafts go on alike.
    """
    putting, taking = would_put(bridge, state, beat), would_take(bridge, state, beat)
    kind = breaks(bridge, state, putting, taking)
    if kind != "":
        return kind
    put, taken, looks, glances, puts, takes = state
    size = len(bridge.code)
    puts, takes = (int(putting), *puts), (int(taking), *takes)
    look_span, glance_span = NO_BEAT, NO_BEAT
    if beat[0] > 0:
        looks, look_span = looks[:-1], sum(takes)
    if beat[1] > 0:
        glances, glance_span = glances[:-1], sum(puts)
    put, taken = (put + puts[0]) % size, (taken + takes[0]) % size
    return (put, taken, looks, glances, puts[:-1], takes[:-1], look_span, glance_span)


def told_of(bridge, count, span):
    """What may be read of a counter that has come to count, the last span steps of it half done."""
    return () if span == NO_BEAT else bridge._told[span][(count - span) % len(bridge.code)]


def looks_of(bridge, draft):
    """What the writer may read; nothing if it has no beat."""
    return told_of(bridge, draft[1], draft[6])


def glances_of(bridge, draft):
    """What the reader may read; nothing if it has no beat."""
    return told_of(bridge, draft[0], draft[7])


def state_of(draft, look, glance):
    """The state that comes of a draft by what is read; None stands for nothing."""
    put, taken, looks, glances, puts, takes = draft[:6]
    looks = looks if look is None else (look, *looks)
    glances = glances if glance is None else (glance, *glances)
    return (put, taken, looks, glances, puts, takes)


def fronted(told, kept):
    """What has been read, with each thing that may be read at its front; as it is if nothing is read."""
    return [(value, *kept) for value in told] if told else [kept]


def coming(bridge, draft):
    """The ascending tuple of the states that may come of a draft."""
    put, taken, looks, glances, puts, takes = draft[:6]
    after_looks = fronted(looks_of(bridge, draft), looks)
    after_glances = fronted(glances_of(bridge, draft), glances)
    return tuple([(put, taken, look, glance, puts, takes) for look in after_looks for glance in after_glances])
