"""Courses: all that comes up from the first state of a bridge when the beats of a lap come again and again."""

from halfread.circles import least_circle
from halfread.errors import TooMany

MOST_PAIRS = 3000


class Leads:
    """What the drafts of one side lead to by a beat, as far as it was asked for.

    Found tells by the sum of a draft and the other side's window: the halves that may come of the draft, the moves,
    that is the drafts to which these come in their turn, the moves without a step of the counter, and all moves turned.
    """

    def __init__(self, side, other, beat, turning):
        self.side = side
        self.window = other.window
        self.beat = beat
        self.turning = turning
        self.fields = side.half + other.window
        self.known = side.moves[beat]
        self.found = {}

    def lead(self, both):
        """What a draft leads to, of the sum of it and a window."""
        side, beat, known = self.side, self.beat, self.known
        half = both & side.half
        if half & side.front > 0:
            halves = [half]
        else:
            window = both & self.window
            reads = side.reads[window] if window in side.reads else side.reads_in(window)
            halves = [half + read for read in reads]
        moves = [known[half] if half in known else side.move(half, beat) for half in halves]
        if len(moves) > 1 and side.late == 1:
            # Here what was read is forgotten at once, and the same draft may come of much of it.
            moves = list({move: True for move in moves})
        stays = [move for move in moves if (move >> side.last_at) & 1 == 0] if beat == 2 else moves
        turned = moves
        if self.turning and side.gain > 0:
            moves = [side.turned(move) if move >= side.gain else move for move in moves]
        elif self.turning:
            turned = [side.turned(move) for move in moves]
        found = (halves, moves, stays, turned)
        self.found[both] = found
        return found


class Course:
    """What comes up by the beats of a lap, from the first state on.

    A node stands for all states that may come of two drafts: it is their sum, above it the number of things in the
    queue behind their tick, and above that the place of the next beat in the lap. For each node there is the fan of the
    numbers of the nodes that may come next. Pairs has the sums of a place and a state that come up, faults the numbers
    of the nodes by some states of which the bridge can break. A course that is turning has everything turned round the
    ring so that put is 0, and what comes up turned in several ways only once.
    """

    def __init__(self, writer, reader, lap, turning):
        self.writer, self.reader = writer, reader
        self.lap = lap
        self.turning = turning
        self.fills = writer.counts * writer.gain
        self.place_at = self.fills.bit_length()
        self.follows = [(place + 1) % len(lap) << self.place_at for place in range(len(lap))]
        self.writing = self.leads_of(writer, reader, 0)
        self.reading = self.leads_of(reader, writer, 1)
        start = writer.move(writer.first, 0) + reader.move(reader.first, 0)
        self.nodes = [start]
        self.known = {start: 0}
        self.fans = []
        self.pairs = {}
        self.faults = []
        self.groups = []
        self.gates = {}
        self.least = ()
        self.explore()

    def leads_of(self, side, other, clock):
        """The leads of a side for each place of the lap."""
        leads = {}
        for beat in self.lap:
            if beat[clock] not in leads:
                leads[beat[clock]] = Leads(side, other, beat[clock], self.turning)
        return [leads[beat[clock]] for beat in self.lap]

    def explore(self):
        """Look at one node after the other until no new ones come up."""
        nodes, fans, known, pairs = self.nodes, self.fans, self.known, self.pairs
        puts, takes = [leads.found for leads in self.writing], [leads.found for leads in self.reading]
        put_fields, take_fields = self.writing[0].fields, self.reading[0].fields
        step, most, fills, place_at = self.writer.gain, self.writer.gain * self.writer.most, self.fills, self.place_at
        number = 0
        while number < len(nodes):
            node = nodes[number]
            place, fill = node >> place_at, node & fills
            put = puts[place].get(node & put_fields) or self.writing[place].lead(node & put_fields)
            take = takes[place].get(node & take_fields) or self.reading[place].lead(node & take_fields)
            halves, moves, stays, _ = put
            others, rests, idles, turned = take
            for half in halves:
                base = (place << place_at) + half
                for other in others:
                    pairs[base + other] = True
            if len(pairs) > MOST_PAIRS:
                raise TooMany(MOST_PAIRS)
            if fill == most and len(stays) < len(moves):
                self.faults.append(number)
                moves = stays
            elif fill == 0 and len(idles) < len(rests):
                self.faults.append(number)
                rests, turned = idles, self.turned_moves(idles)
            onward = self.follows[place] + fill
            fan = []
            for move in moves:
                base = onward + move
                for rest in turned if move >= step else rests:
                    node = base + rest
                    after = known.get(node)
                    if after is None:
                        after = known[node] = len(nodes)
                        nodes.append(node)
                    fan.append(after)
            fans.append(fan)
            number += 1

    def turned_moves(self, moves):
        """The reader's moves as they come if the writer steps, too."""
        return [self.reader.turned(move) for move in moves] if self.turning else moves

    def pairs_at(self, number):
        """The pairs of a node."""
        node = self.nodes[number]
        place = node >> self.place_at
        halves = self.writing[place].found[node & self.writing[place].fields][0]
        others = self.reading[place].found[node & self.reading[place].fields][0]
        return [(place << self.place_at) + half + other for half in halves for other in others]

    def list_pairs(self):
        """Find the group of the pairs of each node, and the gate of each pair, the number of the node that comes next.

        This is for courses that are not turning, in which nothing breaks.
        """
        known, gates, put_fields, take_fields = self.known, self.gates, self.writing[0].fields, self.reading[0].fields
        for node in self.nodes:
            place = node >> self.place_at
            writing, reading = self.writing[place], self.reading[place]
            puts, takes = writing.known, reading.known
            others = reading.found[node & take_fields][0]
            group = []
            for half in writing.found[node & put_fields][0]:
                base, onward = (place << self.place_at) + half, self.follows[place] + (node & self.fills) + puts[half]
                for other in others:
                    gates[base + other] = known[onward + takes[other]]
                    group.append(base + other)
            self.groups.append(group)

    def takes(self):
        """For each node 1 if a thing is taken in the tick that leads to it, otherwise 0."""
        return [(node >> self.reader.last_at) & 1 for node in self.nodes]

    def slowest(self):
        """The least mean of what is taken, a circle of nodes that has it, and values that show it."""
        if self.least == ():
            self.least = least_circle(self.fans, self.takes())
        return self.least

    def sources(self):
        """For each node the number of the one from which it was found, a smaller one; 0 for the first one."""
        sources = [-1] * len(self.nodes)
        sources[0] = 0
        for number, fan in enumerate(self.fans):
            for after in fan:
                if sources[after] < 0:
                    sources[after] = number
        return sources

    def levels(self):
        """For each node in how many ticks it comes up."""
        levels = [0]
        for source in self.sources()[1:]:
            levels.append(levels[source] + 1)
        return levels

    def way_to(self, number):
        """The numbers of the nodes on a shortest way from the first one to one."""
        sources = self.sources()
        way = [number]
        while way[-1] > 0:
            way.append(sources[way[-1]])
        return way[::-1]

    def pairs_on(self, numbers):
        """A pair of each node on a way but the last one, behind which the next node comes."""
        return [
            [pair for pair in self.groups[number] if self.gates[pair] == after][0]
            for number, after in zip(numbers, numbers[1:])
        ]


def turned_course(writer, reader, lap):
    """What comes up, turned, if there surely are not too many pairs when it is turned back; otherwise None."""
    course = Course(writer, reader, lap, True)
    return course if len(course.pairs) * writer.size <= MOST_PAIRS else None
