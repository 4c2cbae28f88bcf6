"""Crossings: bridges that are gone over tick by tick."""

from halfread.bridges import after, check_beat, check_bridge, first_state, would_put
from halfread.checks import check_number, is_whole
from halfread.errors import Broken, NoLook, NothingDone, TooMuch

MOST_LIMIT = 99


class Crossing:
    """Ticks of a bridge that are done one after the other, and can be taken back."""

    def __init__(self, bridge):
        check_bridge(bridge)
        self._bridge = bridge
        # What holds ahead of the first tick and behind each tick: state, put, taken, and what was done.
        self._moments = [(first_state(bridge), 0, 0, None)]

    @property
    def bridge(self):
        return self._bridge

    @property
    def state(self):
        return self._moments[-1][0]

    @property
    def ticks(self):
        return len(self._moments) - 1

    @property
    def put(self):
        return self._moments[-1][1]

    @property
    def taken(self):
        return self._moments[-1][2]

    def tick(self, beat, look=None, glance=None):
        """Do a tick; whether a thing was put, and whether one was taken."""
        check_beat(beat)
        answer = after(self._bridge, self.state, beat)
        if isinstance(answer, str):
            raise Broken(answer)
        put, taken = answer[0][:2]
        looked, glanced = read_now(beat[0], look, taken), read_now(beat[1], glance, put)
        state = state_by(answer, looked, glanced)
        done = (put != self.state[0], taken != self.state[1])
        moment = (state, self.put + int(done[0]), self.taken + int(done[1]), (beat, looked, glanced))
        self._moments.append(moment)
        return done

    def __call__(self, beat):
        return self.tick(beat)

    def run(self, *beats):
        """Do a tick for each beat, or none of them."""
        return self.trial(lambda crossing: tuple([crossing.tick(beat) for beat in beats]))

    def undo(self):
        """Take back the last tick that is left."""
        if self.ticks == 0:
            raise NothingDone("there is no tick to take back")
        self._moments.pop()

    def trial(self, task):
        """Call task with the crossing, and take back all that it did if it fails."""
        moments = list(self._moments)
        try:
            told = task(self)
            moments = self._moments
        finally:
            self._moments = moments
        return told

    def _likeness(self):
        """What makes crossings equal."""
        return [self.__class__.__name__, self.bridge, self.state, self.put, self.taken]

    def __len__(self):
        return len(list(range(self.put - self.taken)))

    def __contains__(self, x):
        return is_whole(x) and self.taken <= x < self.put

    def __eq__(self, other):
        return isinstance(other, Crossing) and self._likeness() == other._likeness()

    def __repr__(self):
        return "".join([self.__class__.__name__, f"({self.ticks} ticks, {len(self)} inside)"])


def read_now(beat, read, count):
    """What is read by a beat: what is said to be, if it is told; or else what the counter has come to."""
    if read is None:
        return count if beat > 0 else None
    if beat == 0 or not is_whole(read):
        raise NoLook("one of the things that may be read in this tick is required")
    return read


def state_by(states, look, glance):
    """The one of the states that may come that does so by what is read; None stands for nothing."""
    for state in states:
        if (look is None or state[2][0] == look) and (glance is None or state[3][0] == glance):
            return state
    raise NoLook("one of the things that may be read in this tick is required")


class Limited(Crossing):
    """A crossing in which only so many things are put."""

    def __init__(self, bridge, limit):
        super().__init__(bridge)
        check_number(limit, 1, MOST_LIMIT)
        self.limit = limit

    def tick(self, beat, look=None, glance=None):
        """Do a tick in which no thing is put beyond the limit."""
        check_beat(beat)
        if self.put >= self.limit and beat[0] == 2 and would_put(self.bridge, self.state):
            raise TooMuch(f"{self.limit} things are put already")
        return super().tick(beat, look, glance)

    def _likeness(self):
        return [*super()._likeness(), self.limit]


class Logged(Crossing):
    """A crossing that tells what was done in its ticks."""

    def __init__(self, bridge):
        super().__init__(bridge)

    @property
    def log(self):
        return tuple([done for _, _, _, done in self._moments[1:]])

    def _likeness(self):
        return [*super()._likeness(), self.log]


class LimitedLogged(Limited, Logged):
    """A crossing with a limit that tells what was done in its ticks."""

    def __init__(self, bridge, limit):
        super().__init__(bridge, limit)
