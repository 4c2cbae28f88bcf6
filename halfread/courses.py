"""Courses: all that comes up from the first state of a bridge when certain beats may come at each turn."""

from halfread.bridges import coming, first_state, ticked
from halfread.errors import TooMany

MOST_PAIRS = 3000


class Course:
    """The pairs (place, state) that come up, numbered in the order in which they are found.

    The turns are tuples of the beats that may come at each place; behind the last place comes the first one. A fan is
    the list of the numbers of all pairs that may come next by one beat; pairs that go on alike share one.
    """

    def __init__(self, bridge, turns):
        self.queue = bridge
        self.turns = turns
        self.pairs = []
        self.numbers = {}
        self.sources = []
        self.levels = []
        self.fans = []
        self.drafts = {}
        self.gates = []
        self.faults = []
        self.note((0, first_state(bridge)), None)
        while len(self.gates) < len(self.pairs):
            self.go_on(len(self.gates))

    def note(self, pair, source):
        """The number of a pair, which gets one if it is new; source is (number, beat) of what it comes from."""
        if pair not in self.numbers:
            if len(self.pairs) == MOST_PAIRS:
                raise TooMany(MOST_PAIRS)
            self.numbers[pair] = len(self.pairs)
            self.pairs.append(pair)
            self.sources.append(source)
            self.levels.append(0 if source is None else self.levels[source[0]] + 1)
        return self.numbers[pair]

    def go_on(self, number):
        """Look at each beat that may come at a pair, in order."""
        place, state = self.pairs[number]
        gates = []
        for beat in self.turns[place]:
            draft = ticked(self.queue, state, beat)
            if isinstance(draft, str):
                self.faults.append((number, beat, draft))
            else:
                gates.append(self.gate_of(draft, number, beat))
        self.gates.append(gates)

    def gate_of(self, draft, number, beat):
        """The place among the fans of what may come of a draft."""
        after = (self.pairs[number][0] + 1) % len(self.turns)
        if (after, draft) not in self.drafts:
            self.drafts[(after, draft)] = len(self.fans)
            self.fans.append([self.note((after, state), (number, beat)) for state in coming(self.queue, draft)])
        return self.drafts[(after, draft)]

    def way_to(self, number):
        """The first of the shortest ways from the first pair to one, as (beat, number) for each pair behind it."""
        way = []
        while self.sources[number] is not None:
            before, beat = self.sources[number]
            way.append((beat, number))
            number = before
        return way[::-1]
