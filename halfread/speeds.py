"""Speeds: how many things are taken per tick when the same beats come again and again."""

from halfread.bridges import Bridge, check_bridge, check_late, check_slow, is_beat, is_state, would_take
from halfread.checks import is_whole
from halfread.circles import is_least, least_circle, mean_of
from halfread.codes import check_code
from halfread.courses import Course
from halfread.errors import Broken, NoLap

MOST_BEATS = 6


def check_lap(lap):
    """Refuse what is no lap."""
    if not isinstance(lap, tuple) or not 1 <= len(lap) <= MOST_BEATS or not all([is_beat(beat) for beat in lap]):
        raise NoLap("a tuple of one to six beats is required")


def course_of(bridge, lap):
    """What comes up by the beats of a lap."""
    return Course(bridge, tuple([(beat,) for beat in lap]))


def whole_course(bridge, lap):
    """What comes up by the beats of a lap, none of which may break the bridge."""
    course = course_of(bridge, lap)
    if course.faults:
        kind = first_kind(course)
        raise Broken(kind)
    return course


def first_kind(course):
    """How the bridge breaks in the earliest tick in which it can, in the smallest state."""
    rows = [(course.levels[number], course.pairs[number], kind) for number, _, kind in course.faults]
    return min(rows)[2]


def fan_places(course):
    """For each pair the place of its fan."""
    return [gates[0] for gates in course.gates]


def taken_at(bridge, lap, course):
    """For each pair 1 if a thing is taken in the tick behind it, otherwise 0."""
    return [int(would_take(bridge, state, lap[place])) for place, state in course.pairs]


def speeds(bridge, lap):
    """The least and the greatest number of things that are taken per tick in the long run."""
    check_bridge(bridge)
    check_lap(lap)
    course = whole_course(bridge, lap)
    takes = taken_at(bridge, lap, course)
    least, _, _ = least_circle(course.fans, fan_places(course), takes)
    greatest, _, _ = least_circle(course.fans, fan_places(course), [-taken for taken in takes])
    return (least, (-greatest[0], greatest[1]))


def slowest(bridge, lap):
    """The least speed, with a way to a round that has it, that round, and prices that show that none is slower."""
    check_bridge(bridge)
    check_lap(lap)
    course = whole_course(bridge, lap)
    speed, circle, values = least_circle(course.fans, fan_places(course), taken_at(bridge, lap, course))
    start = circle.index(min(circle))
    way = [0, *[number for _, number in course.way_to(circle[start])]]
    prices = sorted([(*pair, -value) for pair, value in zip(course.pairs, values)])
    return (speed, states_of(course, way), states_of(course, circle[start:] + circle[:start]), tuple(prices))


def states_of(course, numbers):
    """The states of the pairs with these numbers."""
    return tuple([course.pairs[number][1] for number in numbers])


def shows_slowest(bridge, lap, thing):
    """Whether any value shows the least speed, as slowest does."""
    check_bridge(bridge)
    check_lap(lap)
    course = whole_course(bridge, lap)
    if not isinstance(thing, tuple) or len(thing) != 4:
        return False
    speed, way, circle, prices = thing
    takes = taken_at(bridge, lap, course)
    ahead = walked(bridge, course, 0, way)
    around = walked(bridge, course, len(ahead) - 1, circle)
    if not ahead or not around or ahead[0] != 0 or ahead[-1] != around[0]:
        return False
    # Pairs have their places, so that only whole laps lead back to the first one.
    if around[0] not in fan_of(course, around[-1]) or not are_whole(speed):
        return False
    return mean_of(around, takes) == speed and are_prices(bridge, course, takes, speed, prices)


def fan_of(course, number):
    """The numbers of the pairs that may come next."""
    return course.fans[course.gates[number][0]]


def walked(bridge, course, ticks, states):
    """The numbers of the pairs that states make after so many ticks, each coming of the one before; or nothing."""
    if not isinstance(states, tuple) or not all([is_state(bridge, state) for state in states]):
        return []
    numbers = []
    for tick, state in enumerate(states):
        number = course.numbers.get(((ticks + tick) % len(course.turns), state), -1)
        if number < 0 or (tick > 0 and number not in fan_of(course, numbers[-1])):
            return []
        numbers.append(number)
    return numbers


def are_whole(things):
    """Whether any value is a tuple of integers."""
    return isinstance(things, tuple) and all([is_whole(thing) for thing in things])


def is_price(bridge, course, thing):
    """Whether any value is (place, state, price) for a pair that comes up."""
    if not isinstance(thing, tuple) or len(thing) != 3 or not is_whole(thing[0]) or not is_whole(thing[2]):
        return False
    return is_state(bridge, thing[1]) and thing[:2] in course.numbers


def are_prices(bridge, course, takes, speed, things):
    """Whether any value has a price for each pair, and no step by a beat makes the price rise too much."""
    if not isinstance(things, tuple) or not all([is_price(bridge, course, thing) for thing in things]):
        return False
    prices = {course.numbers[thing[:2]]: thing[2] for thing in things}
    if len(prices) != len(things) or len(prices) != len(course.pairs):
        return False
    top, bottom = speed
    highest = [max([prices[number] for number in fan]) for fan in course.fans]
    fans = fan_places(course)
    return all([highest[fans[at]] - prices[at] <= bottom * takes[at] - top for at in range(len(takes))])


def least_depth(code, ahead, behind, lap, slow=1):
    """The least depth with which the laps break nothing and are never slower than they let; None if there is none."""
    check_code(code)
    check_late(ahead, behind)
    check_lap(lap)
    check_slow(slow)
    for depth in range(1, len(code)):
        if is_deep_enough(Bridge(code, depth, ahead, behind, slow), lap):
            return depth
    return None


def is_deep_enough(bridge, lap):
    """Whether no beat of the lap can break the bridge, and its least speed is as great as the lap lets."""
    course = course_of(bridge, lap)
    if course.faults:
        return False
    wishes = min([len([beat for beat in lap if beat[side] == 2]) for side in (0, 1)])
    return is_least(course.fans, fan_places(course), taken_at(bridge, lap, course), (wishes, len(lap)))
