"""Circles: the ways back to where they begin whose mean weight is the least.

The points are numbered from 0 on. From a point one may go on to each number of its fan; a list of fans is given, and
for each point the place of its fan in this list, and its weight. A mean is a fraction (top, bottom).
"""

from math import gcd


def circles_of(picks):
    """The circles that come of going from each point to the one picked for it; -1 stands for none."""
    circles = []
    walked_from = [-1] * len(picks)
    for start in range(len(picks)):
        at = start
        while at >= 0 and walked_from[at] < 0:
            walked_from[at] = start
            at = picks[at]
        if at >= 0 and walked_from[at] == start:
            circles.append(circle_at(picks, at))
    return circles


def circle_at(picks, start):
    """The circle that a point lies in."""
    circle = [start]
    while picks[circle[-1]] != start:
        circle.append(picks[circle[-1]])
    return circle


def mean_of(circle, weights):
    """The mean weight of the points, as a fraction without a common factor."""
    total = sum([weights[point] for point in circle])
    common = gcd(total, len(circle))
    return (total // common, len(circle) // common)


def least_of(circles, weights):
    """The mean of the first circle whose mean is the least, and this circle."""
    best, least = circles[0], mean_of(circles[0], weights)
    for circle in circles[1:]:
        mean = mean_of(circle, weights)
        if mean[0] * least[1] < least[0] * mean[1]:
            best, least = circle, mean
    return least, best


def users_of(fans, fan_at):
    """For each fan the points that have it."""
    users = [[] for _ in fans]
    for point, fan in enumerate(fan_at):
        users[fan].append(point)
    return users


def lower_all(fans, users, costs, values, picks):
    """Lower each value to the cost of its point and the least value in its fan; whether any was lowered."""
    lowered = False
    # What is found later mostly comes later, so that values settle sooner this way about.
    for fan, points in reversed(list(zip(fans, users))):
        found = [values[point] for point in fan]
        least = min(found)
        for point in points:
            if costs[point] + least < values[point]:
                values[point] = costs[point] + least
                picks[point] = fan[found.index(least)]
                lowered = True
    return lowered


def settle(fans, fan_at, weights, mean):
    """Some circles with means below this one, if there are any; and values that show it if there are none.

    They do so by this: the value of a point is at most its cost and the value of each point that it may go on to.
    """
    top, bottom = mean
    costs = [weight * bottom - top for weight in weights]
    users = users_of(fans, fan_at)
    values = [0] * len(costs)
    picks = [-1] * len(costs)
    while lower_all(fans, users, costs, values, picks):
        # Only a circle of costs below 0 in all lets a value be lowered by what it was itself.
        circles = circles_of(picks)
        if circles:
            return circles, values
    return [], values


def least_circle(fans, fan_at, weights):
    """The least mean, a circle that has it, and values that show that none is less."""
    circles = circles_of([fans[fan][0] for fan in fan_at])
    least, best, values = (0, 1), [], []
    while circles:
        least, best = least_of(circles, weights)
        circles, values = settle(fans, fan_at, weights, least)
    return least, best, values


def is_least(fans, fan_at, weights, mean):
    """Whether no circle has a mean below this one."""
    circles, _ = settle(fans, fan_at, weights, mean)
    return circles == []
