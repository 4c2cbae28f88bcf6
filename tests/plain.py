"""Plain counterparts of bridges and what is told of them, by the words of the document.

They go over whole sets of states tick by tick, and keep whole runs where the program keeps numbers.
"""

import fractions
import functools

from halfread.bridges import Bridge
from halfread.errors import TooMany
from halfread.speeds import slowest

from support import readings_of

BEATS = [(writer, reader) for writer in range(3) for reader in range(3) if (writer, reader) != (0, 0)]


@functools.lru_cache(None)
def numbers_read(words, value, span):
    """What may be read in a window: the values of the readings, -1 for those that are none."""
    return sorted({words.index(word) if word in words else -1 for word in readings_of(words, value, span)})


def steps_ahead(size, value, other):
    """How many steps other is ahead of value."""
    steps = 0
    while (value + steps) % size != other:
        steps += 1
    return steps


def wishes_met(bridge, state, beat):
    """Whether the writer puts and whether the reader takes."""
    size = len(bridge.code)
    put, taken, looks, glances = state[:4]
    puts = beat[0] == 2 and looks[-1] != -1 and steps_ahead(size, looks[-1], put) < bridge.depth
    takes = beat[1] == 2 and glances[-1] != -1 and steps_ahead(size, taken, glances[-1]) in range(1, bridge.depth + 1)
    return puts, takes


def read_by(words, counted, recent):
    """What is read of a counter that counted so far, with a 1 for each step of the last ticks."""
    steps = recent.count(1)
    return numbers_read(words, (counted - steps) % len(words), steps)


def may_come(bridge, state, beat):
    """What bridge(state, beat) returns."""
    size, words = len(bridge.code), bridge.code.words
    put, taken, looks, glances, puts, takes = state
    puts_now, takes_now = wishes_met(bridge, state, beat)
    if puts_now and steps_ahead(size, taken, put) >= bridge.depth:
        return "full"
    if takes_now and put == taken:
        return "empty"
    put = (put + 1) % size if puts_now else put
    taken = (taken + 1) % size if takes_now else taken
    all_puts, all_takes = (1 if puts_now else 0,) + puts, (1 if takes_now else 0,) + takes
    new_looks, new_glances = [looks], [glances]
    if beat[0] != 0:
        new_looks = [((read,) + looks)[:bridge.ahead] for read in read_by(words, taken, all_takes)]
    if beat[1] != 0:
        new_glances = [((read,) + glances)[:bridge.behind] for read in read_by(words, put, all_puts)]
    return tuple(sorted(
        (put, taken, look, glance, all_puts[:bridge.slow - 1], all_takes[:bridge.slow - 1])
        for look in new_looks for glance in new_glances
    ))


def state_zero(bridge):
    none = tuple(0 for _ in range(1, bridge.slow))
    return (0, 0, tuple(0 for _ in range(bridge.ahead)), tuple(0 for _ in range(bridge.behind)), none, none)


def verdict_of(bridge):
    """What verdict returns, and how many states come up."""
    known, runs, broken = set(), {state_zero(bridge): ()}, []
    while runs:
        known.update(runs)
        longer = {}
        new_broken = []
        for state, run in runs.items():
            for beat in BEATS:
                after = may_come(bridge, state, beat)
                if isinstance(after, str):
                    new_broken.append(run + ((beat, after),))
                    continue
                for other in after:
                    other_run = run + ((beat, other),)
                    if other not in known and (other not in longer or other_run < longer[other]):
                        longer[other] = other_run
        broken = broken or new_broken
        runs = longer
    if broken:
        return ("broken", min(broken)), len(known)
    return ("safe", tuple(sorted(known))), len(known)


def ahead_of_ticks(bridge, lap):
    """The sets of states ahead of tick 0, 1 and so on, until the bridge can break or they come again."""
    now, ticks, sets = frozenset([state_zero(bridge)]), 0, []
    seen = set()
    while (ticks % len(lap), now) not in seen:
        seen.add((ticks % len(lap), now))
        sets.append(now)
        after = set()
        for state in now:
            coming = may_come(bridge, state, lap[ticks % len(lap)])
            if isinstance(coming, str):
                return sets
            after.update(coming)
        now, ticks = frozenset(after), ticks + 1
    return sets


def broken_kind(bridge, lap):
    """How the bridge breaks in the earliest tick in which it can, in the smallest state; None if it cannot."""
    sets = ahead_of_ticks(bridge, lap)
    for state in sorted(sets[-1]):
        coming = may_come(bridge, state, lap[(len(sets) - 1) % len(lap)])
        if isinstance(coming, str):
            return coming
    return None


def arrows_of(bridge, lap):
    """For each pair (place, state) that comes up: what is taken there, and the pairs that may come next."""
    arrows, ahead = {}, [(0, state_zero(bridge))]
    while ahead:
        place, state = ahead.pop()
        if (place, state) in arrows:
            continue
        coming = may_come(bridge, state, lap[place])
        after = [] if isinstance(coming, str) else [((place + 1) % len(lap), other) for other in coming]
        arrows[(place, state)] = (1 if wishes_met(bridge, state, lap[place])[1] else 0, after)
        ahead.extend(after)
    return arrows


def extreme_mean(arrows, start, sign):
    """The least mean of all circles for sign 1, the greatest for -1: by Karp's theorem, over ways of all lengths."""
    many = len(arrows)
    ways = [{start: 0}]
    for _ in range(many):
        longer = {}
        for pair, total in ways[-1].items():
            taken, after = arrows[pair]
            for other in after:
                if other not in longer or total + sign * taken < longer[other]:
                    longer[other] = total + sign * taken
        ways.append(longer)
    return sign * min(
        max(fractions.Fraction(total - ways[ticks][pair], many - ticks) for ticks in range(many) if pair in ways[ticks])
        for pair, total in ways[many].items()
    )


def speeds_of(bridge, lap):
    """The least and the greatest speed as tuples."""
    arrows = arrows_of(bridge, lap)
    means = [extreme_mean(arrows, (0, state_zero(bridge)), sign) for sign in (1, -1)]
    return tuple((mean.numerator, mean.denominator) for mean in means)


def is_answer(bridge, lap, answer):
    """Whether (speed, way, round, prices) is as the document asks, kinds left aside."""
    speed, way, circle, prices = answer
    arrows = arrows_of(bridge, lap)
    pairs = [(at % len(lap), state) for at, state in enumerate(way)]
    around = [((len(way) - 1 + at) % len(lap), state) for at, state in enumerate(circle)]
    if not way or not circle or pairs[0] != (0, state_zero(bridge)) or circle[0] != way[-1] or len(circle) % len(lap):
        return False
    steps = list(zip(pairs, pairs[1:])) + list(zip(around, around[1:] + around[:1]))
    if any(one not in arrows or other not in arrows[one][1] for one, other in steps):
        return False
    if fractions.Fraction(sum(arrows[pair][0] for pair in around), len(around)) != fractions.Fraction(*speed):
        return False
    top, bottom = speed
    table = {(place, state): price for place, state, price in prices}
    if len(table) != len(prices) or set(table) != set(arrows):
        return False
    return all(
        table[other] - table[pair] <= bottom * taken - top for pair, (taken, after) in arrows.items() for other in after
    )


def depth_of(code, ahead, behind, lap, slow=1):
    """What least_depth returns, or TooMany and its limit."""
    wishes = min(sum(beat[side] == 2 for beat in lap) for side in (0, 1))
    for depth in range(1, len(code)):
        bridge = Bridge(code, depth, ahead, behind, slow)
        arrows = arrows_of(bridge, lap)
        if len(arrows) > 3000:
            return TooMany, 3000
        if all(after for _, after in arrows.values()):
            # Ways of all lengths take long; answers of the program are looked at step by step.
            if len(arrows) < 120:
                least = extreme_mean(arrows, (0, state_zero(bridge)), 1)
            else:
                answer = slowest(bridge, lap)
                assert is_answer(bridge, lap, answer)
                least = fractions.Fraction(*answer[0])
            if least == fractions.Fraction(wishes, len(lap)):
                return depth
    return None
