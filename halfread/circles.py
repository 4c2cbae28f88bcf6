"""Circles: the ways back to where they begin whose mean weight is the least.

The points are numbered from 0 on. Each has a fan, a list of the points that may come next, and a weight; picks have for
each point one of its fan. A mean is a fraction (top, bottom), and a circle a list of points.
"""

from math import gcd


def circle_at(picks, start):
    """The circle of picks that a point lies in."""
    circle = [start]
    while picks[circle[-1]] != start:
        circle.append(picks[circle[-1]])
    return circle


def circles_in(picks):
    """All circles that come of going from each point to the one picked for it."""
    circles = []
    walked_from = [-1] * len(picks)
    for start in range(len(picks)):
        at = start
        while walked_from[at] < 0:
            walked_from[at] = start
            at = picks[at]
        if walked_from[at] == start:
            circles.append(circle_at(picks, at))
    return circles


def fraction(top, bottom):
    """A fraction without a common factor."""
    common = gcd(top, bottom)
    return (top // common, bottom // common)


def mean_of(circle, weights):
    """The mean weight of the points of a circle."""
    return fraction(sum([weights[point] for point in circle]), len(circle))


def is_below(one, other):
    """Whether one mean is less than another one."""
    return one[0] * other[1] < other[0] * one[1]


def circle_below(picks, weights, mean):
    """The circle of picks with the least mean, if that is below a mean; otherwise an empty list."""
    least = []
    for circle in circles_in(picks):
        if is_below(mean_of(circle, weights), mean):
            least, mean = circle, mean_of(circle, weights)
    return least


def values_along(picks, costs):
    """Values for the points, each its cost and the value of the one picked for it, but for one point of each circle."""
    values = [0] * len(picks)
    known = [False] * len(picks)
    for start in range(len(picks)):
        way = []
        at = start
        while not known[at]:
            known[at] = True
            way.append(at)
            at = picks[at]
        for point in way[::-1]:
            values[point] = costs[point] + values[picks[point]]
    return values


def lower_all(fans, costs, values, picks):
    """Lower each value to the cost of its point and the least value in its fan; whether any was lowered."""
    lowered = False
    # What is found later mostly comes later, so that values settle sooner this way about.
    for point in range(len(fans) - 1, -1, -1):
        fan = fans[point]
        after = fan[0]
        for other in fan:
            if values[other] < values[after]:
                after = other
        if costs[point] + values[after] < values[point]:
            values[point] = costs[point] + values[after]
            picks[point] = after
            lowered = True
    return lowered


def settle(fans, weights, mean, picks):
    """A circle with a mean below this one, if there is any, or an empty list; and values that show that there is none.

    They do so by this: the value of a point is at most its cost and the value of each point that may come next. No
    circle of the picks, which change, may have a mean below this one at first: then only a circle of costs below 0 in
    all lets a value be lowered by what it was itself, and such a circle is picked.
    """
    top, bottom = mean
    costs = [weight * bottom - top for weight in weights]
    values = values_along(picks, costs)
    circle = []
    while not circle and lower_all(fans, costs, values, picks):
        circle = circle_below(picks, weights, mean)
    return circle, values


def least_circle(fans, weights):
    """The least mean, a circle that has it, and values that show that none is less."""
    picks = [fan[0] for fan in fans]
    circle = circle_below(picks, weights, (max(weights) + 1, 1))
    while True:
        mean = mean_of(circle, weights)
        less, values = settle(fans, weights, mean, picks)
        if not less:
            return mean, circle, values
        circle = less


def is_least(fans, weights, mean):
    """Whether no circle has a mean below this one."""
    picks = [fan[0] for fan in fans]
    if circle_below(picks, weights, mean):
        return False
    circle, _ = settle(fans, weights, mean, picks)
    return circle == []
