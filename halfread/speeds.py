"""Speeds: how many things are taken per tick when the same beats come again and again."""

from halfread.bridges import (
    after, both_sides, check_bridge, check_late, check_slow, is_beat, number_of, states_of,
)
from halfread.checks import is_between, is_whole
from halfread.circles import fraction, is_least, least_circle
from halfread.codes import check_code
from halfread.courses import Course, turned_course
from halfread.errors import Broken, NoLap
from halfread.readings import values_told
from halfread.sides import goes_round, sides_of

MOST_BEATS = 6


def check_lap(lap):
    """Refuse what is no lap."""
    if not isinstance(lap, tuple) or not 1 <= len(lap) <= MOST_BEATS or not all([is_beat(beat) for beat in lap]):
        raise NoLap("a tuple of one to six beats is required")


def whole_course(bridge, lap):
    """What comes up by the beats of a lap, none of which may break the bridge; that of the last lap is kept."""
    if lap not in bridge.courses:
        writer, reader = both_sides(bridge)
        course = Course(writer, reader, lap, False)
        if course.faults:
            kind = first_kind(bridge, course)
            raise Broken(kind)
        bridge.courses = {lap: course}
    return bridge.courses[lap]


def listed_course(bridge, lap):
    """As whole_course, with all pairs listed."""
    course = whole_course(bridge, lap)
    if not course.groups:
        course.list_pairs()
    return course


def quick_course(bridge, lap):
    """What comes up by the beats of a lap, none of which may break the bridge; turned where that tells speeds, too."""
    if lap not in bridge.courses and goes_round(bridge.told):
        writer, reader = both_sides(bridge)
        course = turned_course(writer, reader, lap)
        if course is not None and not course.faults:
            return course
    return whole_course(bridge, lap)


def first_kind(bridge, course):
    """How the bridge breaks in the earliest tick in which it can, in the smallest state."""
    levels = course.levels()
    first = min([levels[number] for number in course.faults])
    pairs = [pair for number in course.faults if levels[number] == first for pair in course.pairs_at(number)]
    beat = course.lap[first % len(course.lap)]
    answers = [after(bridge, state, beat) for state in states_of(bridge, sorted(pairs))]
    return [answer for answer in answers if isinstance(answer, str)][0]


def speeds(bridge, lap):
    """The least and the greatest number of things that are taken per tick in the long run."""
    check_bridge(bridge)
    check_lap(lap)
    course = quick_course(bridge, lap)
    least, _, _ = course.slowest()
    greatest, _, _ = least_circle(course.fans, [-taken for taken in course.takes()])
    return (least, (-greatest[0], greatest[1]))


def slowest(bridge, lap):
    """The least speed, with a way to a round that has it, that round, and prices that show that none is slower."""
    check_bridge(bridge)
    check_lap(lap)
    course = listed_course(bridge, lap)
    speed, circle, values = course.slowest()
    start = circle.index(min(circle))
    around = circle[start:] + circle[:start]
    way = course.way_to(around[0])
    states = states_of(bridge, course.pairs_on([*way, *around[1:], around[0]]))
    return (speed, states[:len(way)], states[len(way) - 1:], prices_of(bridge, course, values))


def prices_of(bridge, course, values):
    """The prices that come of values for the nodes of a course."""
    pairs = sorted(course.gates)
    return tuple([
        (pair >> course.place_at, state, -values[course.gates[pair]])
        for pair, state in zip(pairs, states_of(bridge, pairs))
    ])


def shows_slowest(bridge, lap, thing):
    """Whether any value shows the least speed, as slowest does."""
    check_bridge(bridge)
    check_lap(lap)
    course = listed_course(bridge, lap)
    if not isinstance(thing, tuple) or len(thing) != 4:
        return False
    speed, way, circle, prices = thing
    if not are_whole(speed) or not isinstance(way, tuple) or not isinstance(circle, tuple):
        return False
    if way == () or circle == () or len(circle) % len(lap) > 0 or way[-1] != circle[0]:
        return False
    taken = taken_on(bridge, course, (*way, *circle[1:], circle[0]))
    if taken == [] or fraction(sum(taken[-len(circle):]), len(circle)) != speed:
        return False
    return are_prices(bridge, course, speed, prices)


def are_whole(things):
    """Whether any value is a tuple of integers."""
    return isinstance(things, tuple) and all([is_whole(thing) for thing in things])


def taken_on(bridge, course, states):
    """How many things are taken in each tick on a way from the first state; nothing if states are no such way."""
    takes = course.takes()
    taken = []
    number = 0
    for state in states:
        pair = pair_of(bridge, course, len(taken) % len(course.lap), state)
        if pair not in course.groups[number]:
            return []
        number = course.gates[pair]
        taken.append(takes[number])
    return taken[:-1]


def pair_of(bridge, course, place, state):
    """The pair of a place and of any value, or -1 if that is no state."""
    number = number_of(bridge, state)
    return (place << course.place_at) + number if number >= 0 else -1


def are_prices(bridge, course, speed, things):
    """Whether any value has a price for each pair, and no step by a beat makes the price rise too much."""
    if not isinstance(things, tuple) or len(things) != len(course.gates):
        return False
    prices = {}
    for thing in things:
        if not isinstance(thing, tuple) or len(thing) != 3:
            return False
        place, state, price = thing
        if not is_between(place, 0, len(course.lap) - 1) or not is_whole(price):
            return False
        prices[pair_of(bridge, course, place, state)] = price
    # As many pairs as come up, each of which comes up, are all of them.
    if len(prices) < len(things) or not all([pair in course.gates for pair in prices]):
        return False
    top, bottom = speed
    most = [
        bottom * taken - top - max([prices[pair] for pair in pairs])
        for taken, pairs in zip(course.takes(), course.groups)
    ]
    return all([prices[pair] + most[course.gates[pair]] >= 0 for pair in prices])


def least_depth(code, ahead, behind, lap, slow=1):
    """The least depth with which the laps break nothing and are never slower than they let; None if there is none."""
    check_code(code)
    check_late(ahead, behind)
    check_lap(lap)
    check_slow(slow)
    told = values_told(code, slow)
    turning = goes_round(told)
    writer, reader = sides_of(told, 1, ahead, behind, slow)
    for depth in range(1, len(code)):
        writer.deepen(depth)
        reader.deepen(depth)
        if is_deep_enough(writer, reader, lap, turning):
            return depth
    return None


def is_deep_enough(writer, reader, lap, turning):
    """Whether no beat of the lap can break the bridge, and its least speed is as great as the lap lets."""
    course = turned_course(writer, reader, lap) if turning else None
    if course is None:
        course = Course(writer, reader, lap, False)
    wishes = min([len([beat for beat in lap if beat[side] == 2]) for side in (0, 1)])
    return not course.faults and is_least(course.fans, course.takes(), (wishes, len(lap)))
