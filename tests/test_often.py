"""What is asked often: the same answers each time, told plainly, and little work for them."""

import fractions
import itertools
import unittest

from halfread.bridges import Bridge, first_state, is_state
from halfread.codes import Code
from halfread.errors import Broken, TooMany
from halfread.making import single
from halfread.readings import readings
from halfread.speeds import least_depth, shows_slowest, slowest, speeds
from halfread.verdicts import shows_verdict, verdict

from plain import (
    BEATS, arrows_of, broken_kind, depth_of, is_answer, may_come, speeds_of, state_zero, verdict_of,
)
from support import GRAY, PLAIN, THREE, TWO, answer_of, calls_of, readings_of, same

ALL = ((2, 2),)
LAP = ((2, 2), (2, 1), (1, 2))
LAPS = (ALL, LAP, ((2, 1), (1, 2)), ((2, 0), (0, 2)), ((0, 2), (2, 2), (1, 1), (2, 1)), ((1, 1),))

SIX = single(6, 3)
EIGHT = single(8, 3)


def fresh(bridge):
    """An equal bridge that was asked nothing."""
    return Bridge(bridge.code, bridge.depth, bridge.ahead, bridge.behind, bridge.slow)


def states_that_come_up(bridge, many):
    """The first so many states that come up by any beats."""
    states, known = [state_zero(bridge)], {state_zero(bridge)}
    for state in states:
        for beat in BEATS:
            for after in may_come(bridge, state, beat):
                if isinstance(after, tuple) and after not in known and len(states) < many:
                    known.add(after)
                    states.append(after)
    return states


class LargeInputsTest(unittest.TestCase):
    """The inputs that took long; each is asked twice, and of a bridge that was asked nothing."""

    def test_least_depth(self):
        for late, right, pairs in (
            (3, None, [64, 272, 769, 1547, 2247, 2319, 1575]), (2, 6, [48, 152, 305, 395, 327, 295, 295]),
        ):
            for _ in range(2):
                self.assertTrue(same(least_depth(EIGHT, late, late, ALL), right))
            least = []
            for depth, many in enumerate(pairs, 1):
                bridge = Bridge(EIGHT, depth, late, late)
                self.assertEqual(len(arrows_of(bridge, ALL)), many)
                for _ in range(2):
                    answer = slowest(bridge, ALL)
                    self.assertEqual(len(answer[3]), many)
                    self.assertTrue(same(speeds(bridge, ALL)[0], answer[0]))
                self.assertTrue(is_answer(bridge, ALL, answer))
                least.append(answer[0])
            # One thing goes through in so many ticks, and as many at a time as the depth lets.
            speed = [min(fractions.Fraction(depth, 2 * late + 2), 1) for depth in range(1, 8)]
            self.assertEqual(least, [(part.numerator, part.denominator) for part in speed])

    def test_verdicts(self):
        bridge = Bridge(SIX, 3, 2, 1, 2)
        right, many = verdict_of(bridge)
        self.assertEqual((right[0], len(right[1]), many), ("safe", 2248, 2248))
        for asked in (bridge, bridge, fresh(bridge)):
            self.assertTrue(same(verdict(asked), right))
        for asked in (bridge, bridge, fresh(bridge)):
            for states in (right[1], right[1][::-1], right[1][999:] + right[1][:999]):
                self.assertIs(shows_verdict(asked, ("safe", states)), True)
            for at in (0, 1, 700, 2247):
                self.assertIs(shows_verdict(asked, ("safe", right[1][:at] + right[1][at + 1:])), False)
                self.assertIs(shows_verdict(asked, ("safe", right[1] + right[1][at:at + 1])), False)

    def test_speeds(self):
        bridge = Bridge(EIGHT, 4, 2, 2)
        self.assertEqual(len(arrows_of(bridge, LAP)), 371)
        right = speeds_of(bridge, LAP)
        self.assertEqual(right, ((5, 9), (2, 3)))
        for asked in (bridge, bridge, fresh(bridge)):
            self.assertTrue(same(speeds(asked, LAP), right))
        answers = [slowest(asked, LAP) for asked in (bridge, bridge, fresh(bridge))]
        for answer in answers:
            self.assertTrue(same(answer, answers[0]))
            self.assertTrue(same(answer[0], right[0]))
            self.assertEqual(len(answer[3]), 371)
            self.assertTrue(is_answer(bridge, LAP, answer))
        for asked in (bridge, bridge, fresh(bridge)):
            self.assertTrue(same(speeds(asked, LAP), right))
            self.assertIs(shows_slowest(asked, LAP, answers[0]), True)
            for at in range(4):
                parts = list(answers[0])
                parts[at] = parts[at][:-1]
                self.assertIs(shows_slowest(asked, LAP, tuple(parts)), False)

    def test_bridges_called(self):
        bridge = Bridge(EIGHT, 4, 2, 2)
        states = states_that_come_up(bridge, 400)
        self.assertEqual(len(states), 400)
        for asked in (bridge, bridge, fresh(bridge)):
            for state in states:
                self.assertIs(is_state(asked, state), True)
                for beat in BEATS:
                    self.assertTrue(same(asked(state, beat), may_come(bridge, state, beat)))

    def test_readings(self):
        for code in (EIGHT, SIX, PLAIN, THREE, TWO):
            again = Code(*code.words)
            for value, span in itertools.product(range(len(code)), range(5)):
                right = readings_of(code.words, value, span)
                for asked in (code, code, again):
                    self.assertTrue(same(readings(asked, value, span), right))
            # What was asked of a code is nothing that makes it another one.
            self.assertEqual(code, Code(*code.words))
            self.assertEqual(repr(code), repr(Code(*code.words)))

    def test_rounds(self):
        # Codes of four, six and eight values; what single codes need is told by the document.
        for code, (ahead, behind) in itertools.product((GRAY, SIX, EIGHT), itertools.product((1, 2, 3), repeat=2)):
            depth = ahead + behind + 2
            for _ in range(2):
                self.assertTrue(same(least_depth(code, ahead, behind, ALL), depth if depth < len(code) else None))


class OneLapAfterAnotherTest(unittest.TestCase):
    def test_laps_do_not_mix(self):
        bridges = [Bridge(GRAY, 3, 1, 1), Bridge(PLAIN, 2, 1, 1), Bridge(THREE, 2, 2, 1), Bridge(SIX, 3, 1, 2, 2)]
        for bridge in bridges:
            right = {lap: answer_of(lambda: (speeds(fresh(bridge), lap), slowest(fresh(bridge), lap))) for lap in LAPS}
            for one, other in itertools.permutations(LAPS, 2):
                for lap in (one, other, one):
                    self.assertTrue(same(answer_of(lambda: (speeds(bridge, lap), slowest(bridge, lap))), right[lap]))
                    if isinstance(right[lap][0], tuple):
                        self.assertIs(shows_slowest(bridge, lap, right[lap][1]), True)
                    if isinstance(right[one][0], tuple):
                        self.assertIs(answer_of(lambda: shows_slowest(bridge, other, right[one][1])) is True,
                                      right[other] == right[one])

    def test_all_functions_in_any_order(self):
        state = first_state(Bridge(PLAIN, 1, 1, 1, 2))
        asks = [lambda bridge: bridge(state, (2, 2)), verdict, lambda bridge: answer_of(lambda: speeds(bridge, ALL)),
                lambda bridge: speeds(bridge, ((1, 2), (2, 1))), lambda bridge: slowest(bridge, ((1, 2), (2, 1))),
                lambda bridge: is_state(bridge, state), first_state]
        right = [ask(Bridge(PLAIN, 1, 1, 1, 2)) for ask in asks]
        for order in itertools.permutations(range(len(asks)), 4):
            bridge = Bridge(PLAIN, 1, 1, 1, 2)
            for at in order:
                self.assertTrue(same(asks[at](bridge), right[at]))
            self.assertEqual(bridge, Bridge(PLAIN, 1, 1, 1, 2))


def small_bridges():
    """All bridges of some small codes, with little lateness."""
    codes = [TWO, THREE, PLAIN, GRAY, Code((0, 0), (1, 1), (0, 1)), Code((0, 1, 1), (1, 0, 0), (0, 0, 0), (1, 1, 1))]
    for code, late, slow in itertools.product(codes, ((1, 1), (1, 2), (2, 1)), (1, 2, 3)):
        if sum(late) + slow < 6:
            for depth in range(1, len(code)):
                yield Bridge(code, depth, *late, slow)


class SmallBridgesTest(unittest.TestCase):
    """Small bridges against answers that are told plainly, step by step."""

    def test_verdicts(self):
        kinds = {"safe": 0, "broken": 0, "many": 0}
        for bridge in small_bridges():
            right, many = verdict_of(bridge)
            kinds[right[0] if many <= 3000 else "many"] += 1
            for asked in (bridge, bridge, fresh(bridge)):
                if many > 3000:
                    self.assertEqual(answer_of(lambda: verdict(asked)), (TooMany, 3000))
                else:
                    self.assertTrue(same(verdict(asked), right), (bridge.code.words, bridge))
                self.assertIs(shows_verdict(asked, right), True)
                self.assertIs(shows_verdict(asked, (right[0], right[1][:-1])), False)
        self.assertGreater(min(kinds["safe"], kinds["broken"]), 30, kinds)

    def test_speeds(self):
        counts = {"told": 0, "full": 0, "empty": 0, "many": 0}
        for bridge, lap in itertools.product(small_bridges(), LAPS):
            many = len(arrows_of(bridge, lap))
            kind = "many" if many > 3000 else broken_kind(bridge, lap)
            for asked in (bridge, bridge, fresh(bridge)):
                if kind is not None:
                    right = (TooMany, 3000) if kind == "many" else (Broken, kind)
                    for ask in (lambda: speeds(asked, lap), lambda: slowest(asked, lap),
                                lambda: shows_slowest(asked, lap, None)):
                        self.assertEqual(answer_of(ask), right)
                elif many < 60:
                    right = speeds_of(bridge, lap)
                    self.assertTrue(same(speeds(asked, lap), right), (bridge.code.words, bridge, lap))
                    answer = slowest(asked, lap)
                    self.assertTrue(same(answer[0], right[0]))
                    self.assertEqual(len(answer[3]), many)
                    self.assertTrue(is_answer(bridge, lap, answer))
                    self.assertIs(shows_slowest(asked, lap, answer), True)
                    self.assertIs(shows_slowest(asked, lap, (*answer[:3], answer[3][1:])), False)
            counts["told" if kind is None else kind] += 1
        self.assertGreater(min(counts["told"], counts["full"], counts["empty"]), 20, counts)

    def test_least_depths(self):
        counts = {}
        codes = [TWO, THREE, PLAIN, GRAY, single(6, 3), Code((0, 0), (1, 1), (0, 1))]
        for code, late, slow, lap in itertools.product(codes, ((1, 1), (2, 1), (1, 2)), (1, 2), LAPS):
            right = depth_of(code, *late, lap, slow)
            for _ in range(2):
                answer = answer_of(lambda: least_depth(code, *late, lap, slow))
                self.assertTrue(same(answer, right) or answer == right == (TooMany, 3000), (code.words, late, slow, lap))
            counts[str(right)] = counts.get(str(right), 0) + 1
        self.assertTrue({"None", "1", "3", "4", "5"} <= set(counts), counts)

    def test_bridges_called(self):
        for bridge in small_bridges():
            for state in states_that_come_up(bridge, 40):
                for beat in BEATS:
                    right = may_come(bridge, state, beat)
                    self.assertTrue(same(bridge(state, beat), right))
                    self.assertTrue(same(fresh(bridge)(state, beat), right))


class WorkTest(unittest.TestCase):
    """The work stays small. Calls are counted, since times differ from machine to machine."""

    def test_least_depth(self):
        self.assertLess(calls_of(lambda: least_depth(EIGHT, 3, 3, ALL)), 7000)
        self.assertLess(calls_of(lambda: least_depth(EIGHT, 2, 2, ALL)), 3000)

    def test_verdicts(self):
        bridge = Bridge(SIX, 3, 2, 1, 2)
        told = verdict(bridge)
        for asked in (bridge, fresh(bridge)):
            self.assertLess(calls_of(lambda: verdict(asked)), 40000)
            self.assertLess(calls_of(lambda: shows_verdict(asked, told)), 60000)

    def test_speeds(self):
        bridge = Bridge(EIGHT, 4, 2, 2)
        answer = slowest(bridge, LAP)
        self.assertLess(calls_of(lambda: speeds(fresh(bridge), LAP)), 1000)
        self.assertLess(calls_of(lambda: slowest(fresh(bridge), LAP)), 4000)
        self.assertLess(calls_of(lambda: shows_slowest(fresh(bridge), LAP, answer)), 7000)
        # The lap is known by now.
        self.assertLess(calls_of(lambda: speeds(bridge, LAP)), 200)
        self.assertLess(calls_of(lambda: slowest(bridge, LAP)), 300)
        self.assertLess(calls_of(lambda: shows_slowest(bridge, LAP, answer)), 4000)

    def test_bridges_called(self):
        bridge = Bridge(EIGHT, 4, 2, 2)
        states = states_that_come_up(bridge, 400)
        self.assertLess(calls_of(lambda: [bridge(state, beat) for state in states for beat in BEATS]), 400 * 8 * 15)
        self.assertLess(calls_of(lambda: [is_state(bridge, state) for state in states]), 400 * 6)

    def test_readings(self):
        asks = list(itertools.product(range(8), range(5)))
        self.assertLess(calls_of(lambda: [readings(EIGHT, *ask) for ask in asks]), 40 * 20)
