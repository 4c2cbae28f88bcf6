"""Verdicts: whether a bridge is safe for all clocks."""

from halfread.bridges import after, both_sides, check_bridge, first_state, has_form, is_beat, number_of, states_of
from halfread.errors import TooMany

MOST_STATES = 3000


class Search:
    """Goes from the numbers of states to those of all states that may come of them by any beats.

    Putting and taking tell of each half that was met the drafts that it comes to by the beats from 0 on; the last beat
    is left out where it does what the one before does. Known are the sums of drafts that were met.
    """

    def __init__(self, bridge):
        self.writer, self.reader = both_sides(bridge)
        self.start = self.writer.first + self.reader.first
        self.putting, self.taking = {}, {}
        self.known = {}

    def tick(self, state):
        """The pairs of drafts that a state comes to, in the order of the beats, without those that were met.

        Ahead of them it is told which way the bridge can break, or an empty text.
        """
        puts = self.putting.get(state & self.writer.half) or self.ways_of(self.writer, state, self.putting)
        takes = self.taking.get(state & self.reader.half) or self.ways_of(self.reader, state, self.taking)
        kind = ""
        if len(puts) + len(takes) > 4:
            fill = (self.writer.count_of(state) - self.reader.count_of(state)) % self.writer.size
            if len(puts) > 2 and fill >= self.writer.most:
                kind, puts = "full", puts[:2]
            elif len(takes) > 2 and fill == 0:
                kind, takes = "empty", takes[:2]
        known, new = self.known, []
        # A tick without a beat is none.
        others = takes[1:]
        for draft in puts:
            for other in others:
                if draft + other not in known:
                    known[draft + other] = True
                    new.append((draft, other))
            others = takes
        return kind, new

    def ways_of(self, side, state, ways):
        """The drafts that a side's half of a state comes to by the beats."""
        half = state & side.half
        drafts = [side.move(half, beat) for beat in (0, 1, 2)]
        ways[half] = drafts if drafts[2] != drafts[1] else drafts[:2]
        return ways[half]

    def beat_of(self, state, draft, other):
        """The first beat by which a state comes to drafts."""
        puts, takes = self.putting[state & self.writer.half], self.taking[state & self.reader.half]
        return (puts.index(draft), takes.index(other))

    def arrivals(self, draft, other):
        """The states that may come of drafts, in ascending order."""
        looks = self.writer.arrivals(draft, other & self.reader.window)
        glances = self.reader.arrivals(other, draft & self.writer.window)
        return [half + rest for half in looks for rest in glances]


def verdict(bridge):
    """("safe", all states that come up), or ("broken", the first of the shortest runs that break the bridge)."""
    check_bridge(bridge)
    search = Search(bridge)
    states = [search.start]
    sources = {search.start: ()}
    fault = ()
    at = 0
    while at < len(states):
        kind, new = search.tick(states[at])
        if kind != "" and fault == ():
            fault = (states[at], kind)
        for draft, other in new:
            for state in search.arrivals(draft, other):
                if state not in sources:
                    sources[state] = (states[at], draft, other)
                    states.append(state)
        if len(states) > MOST_STATES:
            raise TooMany(MOST_STATES)
        at += 1
    return ("broken", run_to(bridge, search, sources, fault)) if fault else ("safe", states_of(bridge, sorted(states)))


def run_to(bridge, search, sources, fault):
    """The run that ends with a fault, of where each state was come from and by which drafts."""
    state, kind = fault
    steps = [((2, 0) if kind == "full" else (0, 2), kind)]
    while sources[state] != ():
        before, draft, other = sources[state]
        steps.append((search.beat_of(before, draft, other), states_of(bridge, [state])[0]))
        state = before
    return tuple(steps[::-1])


def shows_verdict(bridge, thing):
    """Whether any value shows that the bridge is safe, or that it can break."""
    check_bridge(bridge)
    if not isinstance(thing, tuple) or len(thing) != 2 or not isinstance(thing[1], tuple):
        return False
    kind, shown = thing
    if kind == "safe":
        return is_closed(bridge, shown)
    return kind == "broken" and is_run(bridge, shown)


def is_closed(bridge, things):
    """Whether things are different states, the first state among them, that no beat breaks or leads away from."""
    inside = {number_of(bridge, thing): True for thing in things}
    search = Search(bridge)
    if -1 in inside or len(inside) < len(things) or search.start not in inside:
        return False
    for state in inside:
        kind, new = search.tick(state)
        if kind != "":
            return False
        for draft, other in new:
            if not all([reached in inside for reached in search.arrivals(draft, other)]):
                return False
    return True


def is_run(bridge, steps):
    """Whether steps lead from the first state, each by its beat, to where the bridge breaks."""
    state = first_state(bridge)
    for at, step in enumerate(steps):
        if not isinstance(step, tuple) or len(step) != 2 or not is_beat(step[0]):
            return False
        answer = after(bridge, state, step[0])
        if isinstance(answer, str):
            return at == len(steps) - 1 and step[1] == answer
        state = step[1]
        if not has_form(bridge, state) or state not in answer:
            return False
    return False
