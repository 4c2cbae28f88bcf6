"""Sides: the writer and the reader of a bridge, each by itself, in numbers.

What a side does in a tick hangs on its own half of a state alone: (count, seen, steps), that is the value of its own
counter, what it has read of the other one, and in which of the last ticks its counter stepped. As a number a half has
these in fields of bits, the latest reading and the latest step in the highest ones. The fields of both sides lie
between each other, so that the sum of two halves stands for a state, and states are ordered as these sums are.

A draft is what a tick makes of a half before anything is read: a half again, in which the latest reading is left out
if there is to be one. Above the fields of halves it has its span, by which the other side reads this one's counter,
and above these what it adds to the queue. So the sum of two drafts stands for all states that may come of them.
"""

# A reading is told by a digit: 0 if it is left out, 1 if it is no word of the code, then the values from 2 on.
FIRST = 2
# How many steps the fields of steps tell.
SPANS = (0, 1, 1, 2, 1, 2, 2, 3)


def filled(bits):
    """The number of so many bits that are all 1."""
    return (1 << bits) - 1


class Side:
    """The writer or the reader of a bridge, and what it has come to so far.

    Places tell where the fields of count, seen, steps and span begin; gain is what a step adds to the queue, in its
    field. Numbers and halves have the numbers of halves and the other way about, moves for each beat the drafts that
    halves come to, and reads what may be read of the other side, by its window: its count and span, other fields 0.
    """

    def __init__(self, size, late, slow, places, gain):
        self.size = size
        self.late = late
        self.past = slow - 1
        self.wide = (size + 1).bit_length()
        self.count_at, self.seen_at, self.steps_at, self.span_at = places
        self.gain = gain
        self.counts = filled((size - 1).bit_length())
        self.digits = filled(self.wide)
        self.seens = filled(self.wide * late)
        self.steps = filled(self.past)
        # A draft tells here whether there was a step in its tick; where no steps are told, the span does.
        self.last_at = self.steps_at + self.past - 1 if self.past > 0 else self.span_at
        self.front_at = self.seen_at + self.wide * (late - 1)
        self.front = self.digits << self.front_at
        self.seen_places = [self.front_at - self.wide * at for at in range(late)]
        self.step_places = [self.steps_at + self.past - 1 - at for at in range(self.past)]
        self.half = (self.counts << self.count_at) + (self.seens << self.seen_at) + (self.steps << self.steps_at)
        self.window = (self.counts << self.count_at) + (filled(slow.bit_length()) << self.span_at)
        self.numbers = {}
        self.halves = {}
        self.told = []
        self.other_places = (0, 0)
        self.reads = {}
        self.most = 0
        self.moves = ({}, {}, {})
        self.first = self.number_of((0, (0,) * late, (0,) * self.past))

    def look_at(self, told, other):
        """Have the counter of another side to read; told is what may be read, by span and last value of a window."""
        self.told = told
        self.other_places = (other.span_at, other.count_at)

    def deepen(self, depth):
        """Have a queue of this depth."""
        self.most = depth
        self.moves = ({}, {}, {})

    def number_of(self, half):
        """The number of a half."""
        if half not in self.numbers:
            count, seen, steps = half
            read = step = 0
            for value in seen:
                read = (read << self.wide) + value + FIRST
            for bit in steps:
                step = 2 * step + bit
            number = (count << self.count_at) + (read << self.seen_at) + (step << self.steps_at)
            self.numbers[half] = number
            self.halves[number] = half
        return self.numbers[half]

    def halves_of(self, numbers):
        """The halves with these numbers."""
        return [self.halves[number] if number in self.halves else self.half_of(number) for number in numbers]

    def half_of(self, number):
        """The half with a number that was not met before."""
        seen = tuple([((number >> at) & self.digits) - FIRST for at in self.seen_places])
        steps = tuple([(number >> at) & 1 for at in self.step_places])
        half = ((number >> self.count_at) & self.counts, seen, steps)
        self.halves[number] = half
        self.numbers[half] = number
        return half

    def count_of(self, number):
        """The value of the side's counter in a half, a draft or a sum of these."""
        return (number >> self.count_at) & self.counts

    def acts(self, count, digit):
        """Whether the side puts or takes a thing if it wishes to, by its counter and its last reading."""
        ahead = (digit - FIRST - count) % self.size
        if digit < FIRST:
            return False
        return -ahead % self.size < self.most if self.gain > 0 else 1 <= ahead <= self.most

    def move(self, number, beat):
        """The draft that a half comes to by a beat."""
        moves = self.moves[beat]
        if number not in moves:
            moves[number] = self.ticked(number, beat)
        return moves[number]

    def ticked(self, number, beat):
        """The draft that a half comes to by a beat, worked out."""
        count = (number >> self.count_at) & self.counts
        seen = (number >> self.seen_at) & self.seens
        steps = (number >> self.steps_at) & self.steps
        gain = 0
        if beat == 2 and self.acts(count, seen & self.digits):
            count = (count + 1) % self.size
            steps += 1 << self.past
            gain = self.gain
        if beat > 0:
            seen = seen >> self.wide
        span = SPANS[steps] << self.span_at
        return (count << self.count_at) + (seen << self.seen_at) + ((steps >> 1) << self.steps_at) + span + gain

    def arrivals(self, draft, window):
        """The halves that may come of a draft, the other side's counter being read in a window."""
        half = draft & self.half
        if half & self.front > 0:
            return [half]
        reads = self.reads[window] if window in self.reads else self.reads_in(window)
        return [half + read for read in reads]

    def reads_in(self, window):
        """What may be read in a window that was not met before, as digits at the place of the latest reading."""
        span_at, count_at = self.other_places
        values = self.told[window >> span_at][(window >> count_at) & self.counts]
        self.reads[window] = [(value + FIRST) << self.front_at for value in values]
        return self.reads[window]

    def turned(self, draft):
        """The draft with all values one step back round the ring."""
        count = (draft >> self.count_at) & self.counts
        less = draft + (((count - 1) % self.size - count) << self.count_at)
        for late in range(self.late):
            place = self.seen_at + late * self.wide
            digit = (draft >> place) & self.digits
            if digit >= FIRST:
                less += ((digit - FIRST - 1) % self.size + FIRST - digit) << place
        return less


def sides_of(told, depth, ahead, behind, slow):
    """The writer and the reader of a bridge; told is what may be read, by the span and the last value of a window."""
    size = len(told[0])
    wide, count, span = (size + 1).bit_length(), (size - 1).bit_length(), slow.bit_length()
    glances_at = 2 * (slow - 1)
    looks_at = glances_at + wide * behind
    taken_at = looks_at + wide * ahead
    put_at = taken_at + count
    taken_span_at = put_at + count
    put_span_at = taken_span_at + span
    fill_at = put_span_at + span
    writer = Side(size, ahead, slow, (put_at, looks_at, slow - 1, put_span_at), 1 << fill_at)
    reader = Side(size, behind, slow, (taken_at, glances_at, 0, taken_span_at), -1 << fill_at)
    writer.look_at(told, reader)
    reader.look_at(told, writer)
    writer.deepen(depth)
    reader.deepen(depth)
    return writer, reader


def goes_round(told):
    """Whether the same may be read in all windows of a span, but for turning it round the ring."""
    for rows in told[1:]:
        size = len(rows)
        if len(set([len(values) for values in rows])) > 1:
            return False
        for last, values in enumerate(rows):
            turned = sorted([(value + last) % size if value >= 0 else value for value in rows[0]])
            if turned != values:
                return False
    return True
