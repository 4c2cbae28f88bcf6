"""Circles: the ways back to where they begin whose mean weight is the least.

The points are numbered from 0 on. From a point one may go on to each number of its fan; a list of fans is given, and
for each point the place of its fan in this list, and its weight. A mean is a fraction (top, bottom).
"""

from math import gcd


def circle_in(picks):
    """A circle that comes of going from each point to the one picked for it, if there is one; -1 stands for none."""
    walked_from = [-1] * len(picks)
    for start in range(len(picks)):
        at = start
        while at >= 0 and walked_from[at] < 0:
            walked_from[at] = start
            at = picks[at]
        if at >= 0 and walked_from[at] == start:
            return circle_at(picks, at)
    return []


def circle_at(picks, start):
    """The circle that a point lies in."""
    circle = [start]
    while picks[circle[-1]] != start:
        circle.append(picks[circle[-1]])
    return circle


def mean_of(circle, weights):
    """The mean weight of the points, as a fraction without a common factor."""
    total = sum([weights[point] for point in circle])
    common = gcd(total, len(circle))
    return (total // common, len(circle) // common)


def users_of(fans, fan_at):
    """For each fan the points that have it."""
    users = [[] for _ in fans]
    for point, fan in enumerate(fan_at):
        users[fan].append(point)
    return users


def lower_all(fans, users, costs, values, picks):
    """Lower each value to the cost of its point and the least value in its fan; whether any was lowered."""
    lowered = False
    # What is found later mostly comes later, so that values settle sooner this way about.
    for fan, points in reversed(list(zip(fans, users))):
        found = [values[point] for point in fan]
        least = min(found)
        for point in points:
            if costs[point] + least < values[point]:
                values[point] = costs[point] + least
                picks[point] = fan[found.index(least)]
                lowered = True
    return lowered


def settle(fans, fan_at, weights, mean):
    """A circle with a mean below this one, if there is any, or an empty list; and values that show that there is none.

    They do so by this: the value of a point is at most its cost and the value of each point that it may go on to.
    """
    top, bottom = mean
    costs = [weight * bottom - top for weight in weights]
    users = users_of(fans, fan_at)
    values = [0] * len(costs)
    picks = [-1] * len(costs)
    while lower_all(fans, users, costs, values, picks):
        # Only a circle of costs below 0 in all lets a value be lowered by what it was itself.
        circle = circle_in(picks)
        if circle:
            return circle, values
    return [], values


def least_circle(fans, fan_at, weights):
    """The least mean, a circle that has it, and values that show that none is less."""
    circle = circle_in([fans[fan][0] for fan in fan_at])
    while True:
        mean = mean_of(circle, weights)
        less, values = settle(fans, fan_at, weights, mean)
        if not less:
            return mean, circle, values
        circle = less


def is_least(fans, fan_at, weights, mean):
    """Whether no circle has a mean below this one."""
    circle, _ = settle(fans, fan_at, weights, mean)
    return circle == []
