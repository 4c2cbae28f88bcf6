import itertools
import math
import random
import unittest

from halfread import circles, speeds as module
from halfread.bridges import Bridge, first_state
from halfread.codes import Code
from halfread.errors import Broken, NoBridge, NoCode, NoLap, NoNumber, TooMany
from halfread.making import single
from halfread.speeds import least_depth, shows_slowest, slowest, speeds

from plain import BEATS, arrows_of, broken_kind, depth_of, extreme_mean, is_answer, may_come, speeds_of, state_zero
from support import (
    GRAY, JOHNSON, PLAIN, SIXTEEN, SIXTEEN_WIDE, THREE, TWO, answer_of, no_beats, no_bridges, no_codes, no_integers,
    no_integers_from, same, some_bridges,
)

ALL = ((2, 2),)


def code_of(text):
    return Code.read(text.replace(" ", "\n") + "\n")


# Laps by which just 3,000 and 3,001 pairs of a place and a state come up, some of which can break their bridge.
MANY = [
    (3000, False, "11011 11001 10101 11101 10100 11010 11000 10010 01001 00111 10011 11100 00010 00110", (11, 1, 3, 1),
     ((2, 2), (2, 0), (2, 1), (0, 1))),
    (3000, False, "1011 1111 1110 1000", (3, 2, 2, 3), ((1, 2), (2, 1))),
    (3001, False, "0000 0001 0011 0010 0110 0100 0101 1101 1001 1000", (2, 2, 1, 3), ((2, 2), (2, 1))),
    (3001, False, "110 101 001 000", (2, 3, 3, 2), ((0, 2), (0, 2), (2, 2), (2, 2), (1, 2))),
    (3000, True, "100 111 001", (2, 1, 2, 3), ((2, 1), (1, 2), (0, 2), (2, 0), (1, 2))),
    (3000, True, "1010 1000 0101 0111 1100 1101 1001", (2, 1, 3, 3), ((0, 2), (2, 2), (1, 0))),
    (3001, True, "110 010 001 101 000", (4, 3, 1, 2), ((0, 1), (0, 1), (2, 1), (1, 2), (0, 2), (2, 1))),
    (3001, True, "10 00 11 01", (3, 2, 1, 2), ((2, 2), (2, 1), (2, 2))),
]


def no_laps():
    """Values of many kinds, none of them a lap."""
    things = [(), ((2, 2),) * 7, ((2, 2),) * 100, [(2, 2)], (2, 2), ((2, 2), None), {(2, 2): True}, "22", ((2, 2), ()),
              (((2, 2),),), ((2, 2), (2, 2), "ab")]
    things += [((2, 2), beat) for beat in no_beats()] + [(beat, (1, 1)) for beat in no_beats()]
    return things + no_integers()


def some_laps(bridges, seed):
    """Pairs of a bridge and a lap."""
    source = random.Random(seed)
    return [(bridge, tuple(source.choice(BEATS) for _ in range(source.choice([1, 1, 2, 2, 3, 4, 6]))))
            for bridge in bridges]


class InterfaceTest(unittest.TestCase):
    def test_all_is_defined_in_this_file(self):
        for thing in (speeds, slowest, shows_slowest, least_depth):
            self.assertEqual(thing.__module__, "halfread.speeds")

    def test_names_of_arguments(self):
        bridge = Bridge(PLAIN, 2, 1, 1)
        answer = slowest(lap=ALL, bridge=bridge)
        self.assertTrue(same(answer, slowest(bridge, ALL)))
        self.assertTrue(same(speeds(lap=ALL, bridge=bridge), speeds(bridge, ALL)))
        self.assertIs(shows_slowest(thing=answer, lap=ALL, bridge=bridge), True)
        self.assertTrue(same(least_depth(slow=1, lap=ALL, behind=1, ahead=2, code=JOHNSON), 5))
        self.assertTrue(same(least_depth(lap=ALL, behind=1, ahead=2, code=JOHNSON), 5))


class SpeedsTest(unittest.TestCase):
    def test_worked_out_by_hand(self):
        # A thing is put, seen at once or a tick later, taken in the next tick; and the same for the place that is free.
        self.assertTrue(same(speeds(Bridge(TWO, 1, 1, 1), ALL), ((1, 4), (1, 2))))
        # The looks come between the steps, and are never mixed: put in a tick, seen in the next one, taken in the fourth,
        # seen in the fifth; the next thing is put in the seventh.
        self.assertTrue(same(speeds(Bridge(TWO, 1, 1, 1), ((2, 0), (0, 2))), ((1, 6), (1, 6))))
        # Put, seen, taken and seen in turn.
        self.assertTrue(same(speeds(Bridge(TWO, 1, 1, 1), ((2, 0), (0, 1), (0, 2), (1, 0))), ((1, 4), (1, 4))))

    def test_nothing_is_taken(self):
        for lap in (((1, 1),), ((0, 1),), ((1, 0),), ((2, 0),), ((0, 2),), ((2, 1),), ((1, 2), (0, 1)), ((2, 0), (2, 1))):
            self.assertTrue(same(speeds(Bridge(GRAY, 2, 1, 1), lap), ((0, 1), (0, 1))))
            speed, way, circle, prices = slowest(Bridge(GRAY, 2, 1, 1), lap)
            self.assertTrue(same(speed, (0, 1)))
            self.assertTrue(is_answer(Bridge(GRAY, 2, 1, 1), lap, (speed, way, circle, prices)))

    def test_without_a_common_factor(self):
        # Each of six beats does the same as one.
        for many in range(1, 7):
            self.assertTrue(same(speeds(Bridge(TWO, 1, 1, 1), ALL * many), ((1, 4), (1, 2))))

    def test_deep_enough_for_all(self):
        for bridge in (Bridge(JOHNSON, 4, 1, 1), Bridge(single(8, 3), 6, 2, 2), Bridge(single(8, 3), 7, 1, 3)):
            self.assertTrue(same(speeds(bridge, ALL), ((1, 1), (1, 1))))
        self.assertTrue(same(speeds(Bridge(JOHNSON, 5, 1, 1), ((2, 2), (2, 1))), ((1, 2), (1, 2))))
        self.assertTrue(same(speeds(Bridge(JOHNSON, 5, 1, 1), ((1, 2), (2, 1), (2, 2))), ((2, 3), (2, 3))))

    def test_against_the_words_of_the_document(self):
        counts = {"same": 0, "differ": 0, "full": 0, "empty": 0, "many": 0}
        for bridge, lap in some_laps(some_bridges(320, 21, 6), 22):
            answer = answer_of(lambda: speeds(bridge, lap))
            if answer[0] is TooMany:
                counts["many"] += 1
            elif answer[0] is Broken:
                self.assertEqual(answer[1], broken_kind(bridge, lap))
                counts[answer[1]] += 1
            elif len(arrows_of(bridge, lap)) < 150:
                self.assertTrue(same(answer, speeds_of(bridge, lap)), (bridge.code.words, bridge, lap))
                counts["same" if answer[0] == answer[1] else "differ"] += 1
        self.assertGreater(min(counts.values()), 5, counts)

    def test_least_is_not_greater(self):
        for bridge, lap in some_laps(some_bridges(100, 23), 24):
            answer = answer_of(lambda: speeds(bridge, lap))
            if isinstance(answer[0], tuple):
                (top, bottom), (high, low) = answer
                self.assertLessEqual(top * low, high * bottom)
                wishes = min(sum(beat[side] == 2 for beat in lap) for side in (0, 1))
                self.assertLessEqual(high * len(lap), wishes * low)
                self.assertEqual((math.gcd(top, bottom), math.gcd(high, low)), (1, 1))


def kinds_that_come_up(bridge, lap):
    """All ways in which the bridge can break by the beats of a lap, in whatever tick."""
    answers = [may_come(bridge, state, lap[place]) for place, state in arrows_of(bridge, lap)]
    return {answer for answer in answers if isinstance(answer, str)}


class BrokenTest(unittest.TestCase):
    def test_worked_out_by_hand(self):
        # The reader takes the first thing, and then another one that never came.
        bridge = Bridge(PLAIN, 2, 1, 1, 2)
        lap = ((2, 1), (2, 2), (0, 2), (0, 2))
        for ask in (lambda: speeds(bridge, lap), lambda: slowest(bridge, lap), lambda: shows_slowest(bridge, lap, None)):
            with self.assertRaises(Broken) as caught:
                ask()
            self.assertEqual(caught.exception.kind, "empty")
        # The run to what is full that is worked out in the tests of verdicts.
        lap = ((2, 1), (2, 2), (2, 2), (2, 0), (2, 0))
        with self.assertRaises(Broken) as caught:
            speeds(bridge, lap)
        self.assertEqual(caught.exception.kind, broken_kind(bridge, lap))

    def test_the_earliest_tick_and_the_smallest_state(self):
        kinds, both = set(), 0
        for bridge, lap in some_laps(some_bridges(700, 25, 8), 26):
            answer = answer_of(lambda: speeds(bridge, lap))
            if answer[0] is Broken:
                self.assertEqual(answer[1], broken_kind(bridge, lap), (bridge.code.words, bridge, lap))
                kinds.add(answer[1])
                both += len(kinds_that_come_up(bridge, lap)) == 2
                self.assertEqual(answer, answer_of(lambda: slowest(bridge, lap)))
                self.assertEqual(answer, answer_of(lambda: shows_slowest(bridge, lap, ())))
        self.assertEqual(kinds, {"full", "empty"})
        self.assertGreater(both, 5)

    def test_with_slow_1_nothing_breaks(self):
        for bridge, lap in some_laps(some_bridges(100, 27, 9), 28):
            bridge = Bridge(bridge.code, bridge.depth, bridge.ahead, bridge.behind)
            self.assertIsNot(answer_of(lambda: speeds(bridge, lap))[0], Broken)


class TooManyTest(unittest.TestCase):
    def test_exactly(self):
        for many, breaks, text, numbers, lap in MANY:
            bridge = Bridge(code_of(text), *numbers)
            for ask in (lambda: speeds(bridge, lap), lambda: slowest(bridge, lap),
                        lambda: shows_slowest(bridge, lap, None)):
                answer = answer_of(ask)
                if many == 3001:
                    self.assertTrue(same(answer, (TooMany, 3000)))
                elif breaks:
                    self.assertTrue(same(answer, (Broken, broken_kind(bridge, lap))))
            if many == 3000 and not breaks:
                answer = slowest(bridge, lap)
                self.assertEqual(len(answer[3]), 3000)
                self.assertTrue(is_answer(bridge, lap, answer))
                self.assertIs(shows_slowest(bridge, lap, answer), True)
                self.assertEqual(speeds(bridge, lap)[0], answer[0])
                self.assertIs(shows_slowest(bridge, lap, None), False)
        self.assertEqual({(many, breaks) for many, breaks, _, _, _ in MANY},
                         {(3000, False), (3001, False), (3000, True), (3001, True)})

    def test_the_largest(self):
        for code in (SIXTEEN, SIXTEEN_WIDE, single(16, 4)):
            lap = ((2, 2), (2, 1), (1, 2), (2, 0), (0, 2), (2, 2))
            for ask in (lambda: speeds(Bridge(code, 15, 3, 3, 3), lap), lambda: slowest(Bridge(code, 15, 3, 3, 3), lap),
                        lambda: shows_slowest(Bridge(code, 15, 3, 3, 3), lap, ()),
                        lambda: least_depth(code, 3, 3, lap, 3)):
                with self.assertRaises(TooMany) as caught:
                    ask()
                self.assertTrue(same(caught.exception.limit, 3000))


class SlowestTest(unittest.TestCase):
    def test_worked_out_by_hand(self):
        speed, way, circle, prices = slowest(Bridge(TWO, 1, 1, 1), ALL)
        self.assertTrue(same(speed, (1, 4)))
        # Put, seen late, taken, seen late; and the same with the other values.
        slow = [(0, 0, (0,), (0,), (), ()), (1, 0, (0,), (0,), (), ()), (1, 0, (0,), (1,), (), ()),
                (1, 1, (0,), (1,), (), ()), (1, 1, (1,), (1,), (), ()), (0, 1, (1,), (1,), (), ()),
                (0, 1, (1,), (0,), (), ()), (0, 0, (1,), (0,), (), ())]
        self.assertEqual(sorted(circle), sorted(slow))
        self.assertEqual(way[0], (0, 0, (0,), (0,), (), ()))
        self.assertEqual([(place, state) for place, state, _ in prices], sorted((0, state) for state in slow))
        price = {state: price for _, state, price in prices}
        # Round the slow way each step is as dear as it may be.
        for one, other in zip(slow, slow[1:] + slow[:1]):
            self.assertEqual(price[other] - price[one], (4 if other[1] != one[1] else 0) - 1)

    def test_kinds(self):
        for bridge, lap in some_laps(some_bridges(60, 31, 8), 32):
            answer = answer_of(lambda: slowest(bridge, lap))
            if isinstance(answer[0], tuple):
                speed, way, circle, prices = answer
                self.assertTrue(all(isinstance(part, tuple) for part in (answer, speed, way, circle, prices)))
                self.assertTrue(all(type(number) is int for number in speed))
                self.assertTrue(all(type(row) is tuple and type(row[2]) is int for row in prices))
                self.assertEqual(list(prices), sorted(prices))

    def test_against_the_words_of_the_document(self):
        many = 0
        for bridge, lap in some_laps(some_bridges(300, 33, 8), 34):
            answer = answer_of(lambda: slowest(bridge, lap))
            if answer[0] in (TooMany, Broken):
                self.assertEqual(answer, answer_of(lambda: speeds(bridge, lap)))
                continue
            self.assertTrue(is_answer(bridge, lap, answer), (bridge.code.words, bridge, lap))
            self.assertTrue(same(answer[0], speeds(bridge, lap)[0]))
            self.assertIs(shows_slowest(bridge, lap, answer), True)
            many += 1
        self.assertGreater(many, 60)


class ShowsSlowestTest(unittest.TestCase):
    def setUp(self):
        self.bridge = Bridge(PLAIN, 2, 1, 1)
        self.lap = ((2, 2), (2, 1), (1, 2))
        self.answer = slowest(self.bridge, self.lap)

    def shows(self, speed=None, way=None, circle=None, prices=None):
        parts = [part if given is None else given for part, given in zip(self.answer, (speed, way, circle, prices))]
        thing = tuple(parts)
        before = repr(thing)
        answer = shows_slowest(self.bridge, self.lap, thing)
        self.assertEqual(repr(thing), before)
        self.assertIn(answer, (True, False))
        self.assertIs(type(answer), bool)
        return answer

    def test_other_prices(self):
        speed, way, circle, prices = self.answer
        self.assertTrue(self.shows())
        self.assertTrue(self.shows(prices=prices[::-1]))
        self.assertTrue(self.shows(prices=prices[5:] + prices[:5]))
        for more in (1, -1, 10 ** 12, -(10 ** 12)):
            self.assertTrue(self.shows(prices=tuple((place, state, price + more) for place, state, price in prices)))
        self.assertFalse(self.shows(prices=tuple((place, state, 2 * price) for place, state, price in prices)))
        # Round the round each price is settled by the one before: one that is changed alone does not fit.
        inside = [((len(way) - 1 + at) % 3, state) for at, state in enumerate(circle)]
        for at, (place, state, price) in enumerate(prices):
            for other in (price - 1, price + 1, price + 100, price - 100):
                changed = prices[:at] + ((place, state, other),) + prices[at + 1:]
                right = is_answer(self.bridge, self.lap, (speed, way, circle, changed))
                self.assertIs(self.shows(prices=changed), right)
                if (place, state) in inside:
                    self.assertFalse(right)

    def test_each_price_once(self):
        prices = self.answer[3]
        for at in range(0, len(prices), 7):
            place, state, price = prices[at]
            self.assertFalse(self.shows(prices=prices[:at] + prices[at + 1:]))
            self.assertFalse(self.shows(prices=prices + (prices[at],)))
            self.assertFalse(self.shows(prices=prices + ((place, state, price + 1),)))
            self.assertFalse(self.shows(prices=prices[:at] + (prices[at - 1],) + prices[at + 1:]))
            self.assertFalse(self.shows(prices=prices[:at] + ((place + 3, state, price),) + prices[at + 1:]))
            self.assertFalse(self.shows(prices=prices[:at] + ((place - 3, state, price),) + prices[at + 1:]))
        strange = (0, (0, 0, (-1,), (-1,), (), ()), 0)
        self.assertFalse(self.shows(prices=prices + (strange,)))
        self.assertFalse(self.shows(prices=()))

    def test_wrong_kinds_of_prices(self):
        prices = self.answer[3]
        at = [at for at, row in enumerate(prices) if row[:2] == (1, (1, 0, (0,), (0,), (), ()))][0]
        place, state, price = prices[at]
        wrong = [[place, state, price], (True, state, price), (place, list(state), price), (place, state, str(price)),
                 (place, state, None), (place, state), (place, state, price, 0), (place, (True, *state[1:]), price),
                 (place, (*state[:1], False, *state[2:]), price), (place, (*state[:3], (False,), (), ()), price),
                 (place, state, [price]), (None, state, price), (place, None, price), None, (state, place, price), "abc",
                 (place, (*state[:5], []), price), (place, (*state[:2], [0], *state[3:]), price), (PLAIN, state, price)]
        for row in wrong:
            self.assertFalse(self.shows(prices=prices[:at] + (row,) + prices[at + 1:]), row)
            self.assertFalse(self.shows(prices=prices + (row,)), row)
        shifted = tuple((place, state, other - price) for place, state, other in prices)
        self.assertTrue(self.shows(prices=shifted))
        self.assertFalse(self.shows(prices=tuple(
            (place, state, bool(other) if other in (0, 1) else other) for place, state, other in shifted)))
        for thing in [list(prices), {row[:2]: row[2] for row in prices}, None, "", 0, prices[0]]:
            self.assertIs(shows_slowest(self.bridge, self.lap, (*self.answer[:3], thing)), False)

    def test_other_rounds(self):
        speed, way, circle, _ = self.answer
        self.assertTrue(self.shows(circle=circle * 2))
        self.assertTrue(self.shows(circle=circle * 5))
        # The way may go on round the round, and the round begin later.
        for at in range(len(circle) + 1):
            turned = circle[at % len(circle):] + circle[:at % len(circle)]
            longer = way + (circle + circle)[1:at + 1]
            self.assertTrue(self.shows(way=longer, circle=turned))
            if at % len(circle):
                self.assertFalse(self.shows(circle=turned))
                self.assertFalse(self.shows(way=longer))
        for at in range(len(circle)):
            self.assertFalse(self.shows(circle=circle[:at]))
            self.assertFalse(self.shows(circle=circle[:at] + circle[at + 1:]))
            self.assertFalse(self.shows(circle=circle[:at] + circle[at:at + 1] + circle[at:]))
        self.assertFalse(self.shows(circle=()))
        self.assertFalse(self.shows(circle=circle + circle[:1]))

    def test_ways(self):
        way, circle = self.answer[1:3]
        self.assertFalse(self.shows(way=()))
        self.assertFalse(self.shows(way=way[:-1]))
        self.assertFalse(self.shows(way=way[1:]))
        self.assertFalse(self.shows(way=way + way[-1:]))
        self.assertFalse(self.shows(way=way[:1] + way))
        for other in (((0, 0, (-1,), (0,), (), ()),), ((2, 1, (0,), (2,), (), ()),)):
            self.assertFalse(self.shows(way=other))
            self.assertFalse(self.shows(way=other, circle=other * 3))

    def test_a_way_of_some_states(self):
        # The slow round lies behind some ticks, so that each state of the way counts.
        found = 0
        for bridge, lap in some_laps(some_bridges(200, 35, 8), 36):
            answer = answer_of(lambda: slowest(bridge, lap))
            if answer[0] in (TooMany, Broken) or len(answer[1]) < 3:
                continue
            found += 1
            speed, way, circle, prices = answer
            for at in range(len(way)):
                for other in (way[:at] + way[at + 1:], way[:at] + way[at:at + 1] + way[at:]):
                    thing = (speed, other, circle, prices)
                    self.assertIs(shows_slowest(bridge, lap, thing), is_answer(bridge, lap, thing))
        self.assertGreater(found, 5)

    def test_rounds_that_are_not_the_slowest(self):
        bridge = Bridge(TWO, 1, 1, 1)
        speed, way, circle, prices = slowest(bridge, ALL)
        fast = ((0, 0, (0,), (0,), (), ()), (1, 0, (0,), (1,), (), ()), (1, 1, (1,), (1,), (), ()),
                (0, 1, (1,), (0,), (), ()))
        for rate in ((1, 2), (1, 4), (2, 4)):
            for ring in (fast, fast * 2):
                self.assertIs(shows_slowest(bridge, ALL, (rate, fast[:1], ring, prices)), False)
        # Prices that fit the fast round do not hold for all steps.
        zero = tuple((place, state, 0) for place, state, _ in prices)
        self.assertIs(shows_slowest(bridge, ALL, ((1, 2), fast[:1], fast, zero)), False)
        self.assertIs(shows_slowest(bridge, ALL, (speed, way, circle, prices)), True)
        self.assertIs(shows_slowest(bridge, ALL, (speed, way, circle, zero)), False)

    def test_speeds(self):
        top, bottom = self.answer[0]
        self.assertGreater(top, 0)
        for speed in [(2 * top, 2 * bottom), (-top, -bottom), (top, bottom, 1), (top,), [top, bottom], (str(top), bottom),
                      (top + 1, bottom), (top, bottom + 1), (0, 1), (1, 1), top, None, (), ((top, bottom),), (top, None)]:
            self.assertIs(shows_slowest(self.bridge, self.lap, (speed, *self.answer[1:])), False, speed)
        bridge = Bridge(JOHNSON, 5, 1, 1)
        answer = slowest(bridge, ALL)
        self.assertEqual(answer[0], (1, 1))
        self.assertIs(shows_slowest(bridge, ALL, answer), True)
        for speed in ((True, True), (1, True), (True, 1), (2, 2), (0, 0), (1, 0)):
            self.assertIs(shows_slowest(bridge, ALL, (speed, *answer[1:])), False)
        still = slowest(bridge, ((1, 1),))
        self.assertIs(shows_slowest(bridge, ((1, 1),), still), True)
        for speed in ((0, 2), (False, 1), (0, True), (0, 0), (0, -1)):
            self.assertIs(shows_slowest(bridge, ((1, 1),), (speed, *still[1:])), False)

    def test_wrong_kinds_of_states(self):
        speed, way, circle, prices = self.answer
        for states in [list(way), None, "a", 0, way[0], {way[0]: True}, (list(way[0]),), (way,), (None,), (0,)]:
            self.assertIs(shows_slowest(self.bridge, self.lap, (speed, states, circle, prices)), False)
        for states in [list(circle), None, "a", 0, circle[0], tuple(map(list, circle)), (circle,), (None,) * 3]:
            self.assertIs(shows_slowest(self.bridge, self.lap, (speed, way, states, prices)), False)
        many = 0
        for at, state in enumerate(circle):
            for false in ((bool(state[0]), *state[1:]), (state[0], bool(state[1]), *state[2:]),
                          (*state[:2], (bool(state[2][0]),), *state[3:]), (*state[:3], (bool(state[3][0]),), (), ())):
                if false == state:
                    many += 1
                    self.assertFalse(self.shows(circle=circle[:at] + (false,) + circle[at + 1:]))
        self.assertGreater(many, 5)
        for false in ((False, *way[0][1:]), (0, False, *way[0][2:]), (0, 0, (False,), *way[0][3:])):
            self.assertEqual(false, way[0])
            self.assertFalse(self.shows(way=(false, *way[1:])))

    def test_any_value(self):
        for thing in [list(self.answer), self.answer[:3], (*self.answer, ()), self.answer[::-1], (self.answer,), (None,) * 4,
                      ((), (), (), ()), "abcd", *no_integers(), self.bridge, 0, 1]:
            self.assertIs(shows_slowest(self.bridge, self.lap, thing), False)

    def test_no_other_bridge_or_lap(self):
        for bridge in (Bridge(PLAIN, 1, 1, 1), Bridge(PLAIN, 3, 1, 1), Bridge(GRAY, 2, 1, 1), Bridge(PLAIN, 2, 2, 1)):
            self.assertIs(shows_slowest(bridge, self.lap, self.answer), False)
        for lap in (ALL, self.lap[:2], self.lap[::-1], self.lap * 2):
            self.assertIs(shows_slowest(self.bridge, lap, self.answer), False)


class LeastDepthTest(unittest.TestCase):
    def test_single_codes(self):
        many = 0
        for code in (TWO, GRAY, JOHNSON, single(8, 3), single(10, 4), single(12, 4), single(16, 4)):
            for ahead, behind in itertools.product((1, 2, 3), repeat=2):
                depth = ahead + behind + 2
                answer = answer_of(lambda: least_depth(code, ahead, behind, ALL))
                if answer != (TooMany, 3000):
                    self.assertTrue(same(answer, depth if depth < len(code) else None))
                    many += 1
        # Only the two longest codes come to too many pairs on the way, where both are three beats late.
        self.assertEqual(many, 7 * 9 - 2)

    def test_nothing_is_wished(self):
        for lap in (((1, 1),), ((2, 0), (2, 1)), ((0, 2),), ((1, 2), (1, 0))):
            for slow in (1, 2, 3):
                self.assertTrue(same(least_depth(JOHNSON, 1, 2, lap, slow), 1))

    def test_what_breaks_is_passed_over(self):
        # The greatest depth breaks with slow 2, and less is not enough.
        for code in (GRAY, JOHNSON):
            self.assertIs(answer_of(lambda: speeds(Bridge(code, len(code) - 1, 1, 1, 2), ALL))[0], Broken)
            self.assertIsNone(least_depth(code, 1, 1, ALL, 2))
        for depth in (1, 2, 3):
            self.assertIs(answer_of(lambda: speeds(Bridge(PLAIN, depth, 1, 1, 2), ALL))[0], Broken)
        self.assertIsNone(least_depth(PLAIN, 1, 1, ALL, 2))

    def test_a_slower_lap_asks_for_less(self):
        self.assertTrue(same(least_depth(single(8, 3), 1, 1, ((0, 2), (2, 2)), 2), 5))
        self.assertEqual([speeds(Bridge(single(8, 3), depth, 1, 1, 2), ((0, 2), (2, 2)))[0] for depth in range(1, 6)],
                         [(1, 8), (1, 4), (3, 10), (2, 5), (1, 2)])

    def test_against_the_words_of_the_document(self):
        counts = {}
        for bridge, lap in some_laps(some_bridges(130, 41, 6), 42):
            code, ahead, behind, slow = bridge.code, bridge.ahead, bridge.behind, bridge.slow
            right = depth_of(code, ahead, behind, lap, slow)
            answer = answer_of(lambda: least_depth(code, ahead, behind, lap, slow))
            self.assertTrue(same(answer, right) or answer == right == (TooMany, 3000), (code.words, bridge, lap, answer))
            counts[str(answer)] = counts.get(str(answer), 0) + 1
        self.assertTrue({"None", "1", "2"} <= set(counts), counts)
        self.assertGreater(len(counts), 4)


class RefusalsTest(unittest.TestCase):
    def test_no_bridge_is_told_first(self):
        for bridge in no_bridges():
            for lap in (ALL, (), None):
                for ask in (lambda: speeds(bridge, lap), lambda: slowest(bridge, lap),
                            lambda: shows_slowest(bridge, lap, None)):
                    with self.assertRaises(NoBridge):
                        ask()

    def test_no_lap_is_told_ahead_of_what_comes_up(self):
        for bridge in (Bridge(PLAIN, 2, 1, 1), Bridge(PLAIN, 2, 1, 1, 2), Bridge(SIXTEEN, 15, 3, 3, 3)):
            for lap in no_laps():
                for ask in (lambda: speeds(bridge, lap), lambda: slowest(bridge, lap),
                            lambda: shows_slowest(bridge, lap, None)):
                    with self.assertRaises(NoLap):
                        ask()

    def test_laps_of_one_to_six_beats(self):
        for many in range(1, 7):
            for beat in BEATS:
                self.assertTrue(same(len(speeds(Bridge(TWO, 1, 1, 1), (beat,) * many)), 2))

    def test_least_depth(self):
        for code in no_codes():
            with self.assertRaises(NoCode):
                least_depth(code, 0, 0, (), 0)
        for number in no_integers_from(1, 3):
            for numbers in ((number, 1), (1, number), (number, number)):
                for lap, slow in ((ALL, 1), ((), 1), (None, 0)):
                    with self.assertRaises(NoNumber):
                        least_depth(PLAIN, *numbers, lap, slow)
            with self.assertRaises(NoNumber):
                least_depth(PLAIN, 1, 1, ALL, number)
            with self.assertRaises(NoLap):
                least_depth(PLAIN, 1, 1, (), number)
            with self.assertRaises(NoNumber):
                least_depth(SIXTEEN, 3, 3, ALL, number)
        for lap in no_laps():
            with self.assertRaises(NoLap):
                least_depth(PLAIN, 1, 1, lap)


class CirclesTest(unittest.TestCase):
    def test_circles_in_what_is_picked(self):
        self.assertEqual(circles.circles_in([0]), [[0]])
        self.assertEqual(circles.circles_in([3, 2, 1, 0]), [[0, 3], [1, 2]])
        self.assertEqual(circles.circles_in([1, 2, 3, 1]), [[1, 2, 3]])
        self.assertEqual(circles.circles_in([2, 0, 2, 2]), [[2]])

    def test_the_circle_below_a_mean(self):
        picks, weights = [1, 0, 3, 2, 4], [1, 0, 0, 0, 1]
        self.assertEqual(circles.circle_below(picks, weights, (2, 1)), [2, 3])
        self.assertEqual(circles.circle_below(picks, weights, (1, 1)), [2, 3])
        self.assertEqual(circles.circle_below(picks, weights, (0, 1)), [])
        self.assertEqual(circles.circle_below(picks, [1, 0, 1, 1, 1], (1, 2)), [])
        self.assertEqual(circles.circle_below(picks, [1, 0, 1, 1, 1], (3, 5)), [0, 1])

    def test_against_karps_theorem(self):
        source = random.Random(5)
        for _ in range(400):
            many = source.randint(1, 9)
            fans = [source.sample(range(many), source.randint(1, min(3, many))) for _ in range(many)]
            weights = [source.randint(-2, 2) for _ in range(many)]
            arrows = {point: (weights[point], fans[point]) for point in range(many)}
            # A further point from which all others can be reached.
            arrows[-1] = (0, list(range(many)))
            right = extreme_mean(arrows, -1, 1)
            least, circle, values = circles.least_circle(fans, weights)
            self.assertTrue(same(least, (right.numerator, right.denominator)))
            self.assertEqual(sum(weights[point] for point in circle) * least[1], least[0] * len(circle))
            for one, other in zip(circle, circle[1:] + circle[:1]):
                self.assertIn(other, fans[one])
            for point in range(many):
                cost = weights[point] * least[1] - least[0]
                self.assertTrue(all(values[point] <= cost + values[other] for other in fans[point]))
            for top in range(-6, 7):
                self.assertIs(circles.is_least(fans, weights, (top, 3)), top * least[1] <= least[0] * 3)


class SameAnswersTest(unittest.TestCase):
    def test_asked_again(self):
        before = {name: repr(thing) for name, thing in vars(module).items() if not name.startswith("__")}
        for bridge, lap in ((Bridge(PLAIN, 2, 1, 1), ALL), (Bridge(THREE, 2, 2, 1), ((2, 1), (2, 2))),
                            (Bridge(JOHNSON, 4, 1, 1, 2), ((2, 2), (1, 1)))):
            answer = slowest(bridge, lap)
            self.assertTrue(same(answer, slowest(bridge, lap)))
            self.assertTrue(same(speeds(bridge, lap), speeds(bridge, lap)))
            self.assertIs(shows_slowest(bridge, lap, answer), shows_slowest(bridge, lap, answer))
            self.assertEqual(first_state(bridge), state_zero(bridge))
            for _ in range(2):
                self.assertEqual(least_depth(JOHNSON, 1, 1, ALL), 4)
        after = {name: repr(thing) for name, thing in vars(module).items() if not name.startswith("__")}
        self.assertEqual(before, after)
