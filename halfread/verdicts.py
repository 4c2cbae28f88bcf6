"""Verdicts: whether a bridge is safe for all clocks."""

from halfread.bridges import check_bridge, coming, first_state, is_beat, is_state, ticked
from halfread.courses import Course

BEATS = ((0, 1), (0, 2), (1, 0), (1, 1), (1, 2), (2, 0), (2, 1), (2, 2))


def verdict(bridge):
    """("safe", all states that come up), or ("broken", the first of the shortest runs that break the bridge)."""
    check_bridge(bridge)
    course = Course(bridge, (BEATS,))
    if course.faults:
        return ("broken", run_to(course, course.faults[0]))
    return ("safe", tuple(sorted([state for _, state in course.pairs])))


def run_to(course, fault):
    """The run that ends with a fault."""
    number, beat, kind = fault
    run = [(by, course.pairs[at][1]) for by, at in course.way_to(number)]
    return (*run, (beat, kind))


def shows_verdict(bridge, thing):
    """Whether any value shows that the bridge is safe, or that it can break."""
    check_bridge(bridge)
    if not isinstance(thing, tuple) or len(thing) != 2 or not isinstance(thing[1], tuple):
        return False
    kind, shown = thing
    if kind == "safe":
        return is_closed(bridge, shown)
    return kind == "broken" and is_run(bridge, shown)


def is_closed(bridge, things):
    """Whether things are different states, the first state among them, that no beat breaks or leads away from."""
    if not all([is_state(bridge, thing) for thing in things]):
        return False
    inside = {state: True for state in things}
    if len(inside) != len(things) or first_state(bridge) not in inside:
        return False
    drafts = {ticked(bridge, state, beat): True for state in things for beat in BEATS}
    if "full" in drafts or "empty" in drafts:
        return False
    return all([state in inside for draft in drafts for state in coming(bridge, draft)])


def is_run(bridge, steps):
    """Whether steps lead from the first state, each by its beat, to where the bridge breaks."""
    state = first_state(bridge)
    for at, step in enumerate(steps):
        if not isinstance(step, tuple) or len(step) != 2 or not is_beat(step[0]):
            return False
        beat, after = step
        draft = ticked(bridge, state, beat)
        if isinstance(draft, str):
            return at == len(steps) - 1 and after == draft
        if not is_state(bridge, after) or after not in coming(bridge, draft):
            return False
        state = after
    return False
