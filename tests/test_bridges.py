import itertools
import random
import unittest

from halfread import bridges as module
from halfread.bridges import Bridge, first_state, is_state
from halfread.codes import Code
from halfread.errors import NoBeat, NoBridge, NoCode, NoNumber, NoState
from halfread.making import single

from plain import BEATS, may_come, state_zero
from support import (
    GRAY, JOHNSON, NAMED, PLAIN, SIXTEEN, SIXTEEN_WIDE, THREE, TWO, no_beats, no_bridges, no_codes, no_integers,
    no_integers_from, same, some_bridges, some_states,
)

FIVE = Code((0, 0, 1), (1, 1, 0), (0, 1, 0), (1, 0, 1), (0, 0, 0))


class InterfaceTest(unittest.TestCase):
    def test_all_is_defined_in_this_file(self):
        for thing in (Bridge, first_state, is_state):
            self.assertEqual(thing.__module__, "halfread.bridges")
        for name in ("__init__", "code", "depth", "ahead", "behind", "slow", "__call__", "__eq__", "__repr__"):
            self.assertIn(name, vars(Bridge))

    def test_names_of_arguments(self):
        bridge = Bridge(slow=2, behind=3, ahead=1, depth=2, code=PLAIN)
        self.assertEqual(bridge, Bridge(PLAIN, 2, 1, 3, 2))
        self.assertEqual(Bridge(behind=3, code=PLAIN, ahead=1, depth=2), Bridge(PLAIN, 2, 1, 3, 1))
        state = first_state(bridge=bridge)
        self.assertIs(is_state(thing=state, bridge=bridge), True)
        self.assertEqual(bridge(beat=(2, 0), state=state), bridge(state, (2, 0)))


class BridgeTest(unittest.TestCase):
    def test_properties(self):
        bridge = Bridge(GRAY, 3, 1, 2, 3)
        told = (bridge.code, bridge.depth, bridge.ahead, bridge.behind, bridge.slow)
        self.assertEqual(told, (GRAY, 3, 1, 2, 3))
        self.assertTrue(same(told[1:], (3, 1, 2, 3)))
        self.assertTrue(same(Bridge(GRAY, 3, 1, 2).slow, 1))

    def test_equal_if_all_five_are(self):
        one = Bridge(PLAIN, 2, 1, 2, 2)
        self.assertTrue(one == Bridge(Code(*PLAIN.words), 2, 1, 2, 2))
        self.assertFalse(one != Bridge(Code(*PLAIN.words), 2, 1, 2, 2))
        others = [Bridge(GRAY, 2, 1, 2, 2), Bridge(PLAIN, 1, 1, 2, 2), Bridge(PLAIN, 2, 2, 2, 2),
                  Bridge(PLAIN, 2, 1, 1, 2), Bridge(PLAIN, 2, 1, 2, 1), Bridge(PLAIN, 2, 2, 1, 2)]
        for other in others + no_bridges():
            self.assertIs(one == other, False)
            self.assertIs(one != other, True)
            self.assertIs(other == one, False)

    def test_repr(self):
        self.assertEqual(repr(Bridge(PLAIN, 2, 1, 1)), "Bridge(depth 2, 1 and 1 beats late)")
        self.assertEqual(repr(Bridge(SIXTEEN, 15, 3, 2, 3)), "Bridge(depth 15, 3 and 2 beats late)")

    def test_greatest_and_smallest_numbers(self):
        for code in NAMED:
            for depth in (1, len(code) - 1):
                for ahead, behind, slow in itertools.product((1, 3), (1, 3), (1, 3)):
                    self.assertEqual(Bridge(code, depth, ahead, behind, slow).depth, depth)

    def test_refuses(self):
        for code in no_codes():
            for others in ((1, 1, 1), (0, 0, 0), (None, True, "1")):
                with self.assertRaises(NoCode):
                    Bridge(code, *others)
        for code in (TWO, PLAIN, SIXTEEN):
            for depth in no_integers_from(1, len(code) - 1):
                with self.assertRaises(NoNumber):
                    Bridge(code, depth, 1, 1)
        for number in no_integers_from(1, 3):
            for numbers in ((number, 1, 1), (1, number, 1), (1, 1, number), (number, number, number)):
                with self.assertRaises(NoNumber):
                    Bridge(PLAIN, 2, *numbers)

    def test_the_code_stays(self):
        code = Code(*PLAIN.words)
        bridge = Bridge(code, 1, 1, 1)
        bridge(first_state(bridge), (2, 2))
        self.assertIs(bridge.code, code)
        self.assertEqual(code.words, PLAIN.words)


class StateTest(unittest.TestCase):
    def test_first_state(self):
        self.assertTrue(same(first_state(Bridge(PLAIN, 1, 1, 1)), (0, 0, (0,), (0,), (), ())))
        self.assertTrue(same(first_state(Bridge(PLAIN, 3, 2, 3, 2)), (0, 0, (0, 0), (0, 0, 0), (0,), (0,))))
        self.assertTrue(same(first_state(Bridge(TWO, 1, 3, 1, 3)), (0, 0, (0, 0, 0), (0,), (0, 0), (0, 0))))
        for bridge in some_bridges(40, 1):
            self.assertTrue(same(first_state(bridge), state_zero(bridge)))
            self.assertIs(is_state(bridge, first_state(bridge)), True)

    def test_any_tuple_of_this_form(self):
        bridge = Bridge(PLAIN, 2, 1, 2, 2)
        right = [(0, 0, (0,), (0, 0), (0,), (0,)), (3, 3, (3,), (3, 3), (1,), (1,)), (3, 0, (-1,), (-1, -1), (0,), (1,)),
                 (0, 3, (2,), (-1, 3), (1,), (0,)), (1, 2, (0,), (1, 0), (0,), (0,))]
        for state in right:
            self.assertIs(is_state(bridge, state), True)
        numbers = [(put, taken, (look,), (one, two), (puts,), (takes,))
                   for put, taken, look, one, two, puts, takes in itertools.product(range(-2, 6), repeat=7)
                   if put in (-1, 1, 4) and look in (-2, -1, 3, 4) and two in (-2, 0, 4) and one in (-2, -1, 2, 4)]
        for state in numbers:
            put, taken, (look,), (one, two), (puts,), (takes,) = state
            right = 0 <= min(put, taken) and max(put, taken) <= 3 and -1 <= min(look, one, two) and (
                max(look, one, two) <= 3 and {puts, takes} <= {0, 1})
            self.assertIs(is_state(bridge, state), right, state)

    def test_no_tuple_of_this_form(self):
        bridge = Bridge(PLAIN, 2, 1, 2, 2)
        for thing in near_states() + no_integers():
            before = repr(thing)
            self.assertIs(is_state(bridge, thing), False, thing)
            self.assertEqual(repr(thing), before)

    def test_lengths_are_those_of_the_bridge(self):
        for one, other in itertools.product(itertools.product((1, 2, 3), repeat=3), repeat=2):
            thing = first_state(Bridge(TWO, 1, *other))
            self.assertIs(is_state(Bridge(TWO, 1, *one), thing), one == other)

    def test_refuses_no_bridge(self):
        for bridge in no_bridges():
            with self.assertRaises(NoBridge):
                first_state(bridge)
            with self.assertRaises(NoBridge):
                is_state(bridge, (0, 0, (0,), (0,), (), ()))


def near_states():
    """What looks like a state of Bridge(PLAIN, 2, 1, 2, 2), but is none."""
    right = (1, 0, (0,), (1, 0), (1,), (0,))
    things = [list(right), right[:5], right + (0,), right + ((),), (right,), str(right), dict(enumerate(right))]
    for at, part in enumerate(right):
        instead = [None, "0", True, False, [part], (part,), [0], (), (0, 0, 0), PLAIN, 4, -1, -2, 10 ** 12]
        if isinstance(part, tuple):
            wrong = (True, False, None, "0", (0,), [0], 4, -2)
            instead += [list(part), part[0], part + (0,), part[1:], *[(thing,) + part[1:] for thing in wrong]]
            instead += [part[:-1] + (thing,) for thing in wrong]
        things += [right[:at] + (thing,) + right[at + 1:] for thing in instead if not same(thing, part)]
    return [thing for thing in things if not same(thing, right)]


class TickTest(unittest.TestCase):
    def test_a_thing_is_put(self):
        # From value 0 to 1 one bit changes, so that the reader reads one or the other; the writer reads 0.
        bridge = Bridge(PLAIN, 2, 1, 1)
        first = first_state(bridge)
        self.assertTrue(same(bridge(first, (2, 1)), ((1, 0, (0,), (0,), (), ()), (1, 0, (0,), (1,), (), ()))))
        self.assertTrue(same(bridge(first, (2, 0)), ((1, 0, (0,), (0,), (), ()),)))
        # Nothing has come, so that nothing is put or taken by these.
        for beat in ((0, 1), (0, 2), (1, 0), (1, 1), (1, 2)):
            self.assertTrue(same(bridge(first, beat), (first,)))

    def test_all_bits_are_mixed(self):
        # From 1 to 2 both bits change.
        bridge = Bridge(PLAIN, 2, 1, 1)
        after = bridge((1, 0, (0,), (1,), (), ()), (2, 1))
        self.assertTrue(same(after, tuple((2, 0, (0,), (glance,), (), ()) for glance in range(4))))
        # From 2 to 0 of the code of three, a word is read that is none of the code; from 1 to 2 one bit changes.
        bridge = Bridge(THREE, 2, 1, 1)
        after = bridge((2, 1, (1,), (2,), (), ()), (2, 2))
        self.assertTrue(same(after, tuple(
            (0, 2, (look,), (glance,), (), ()) for look in (1, 2) for glance in (-1, 0, 1, 2))))

    def test_who_has_no_beat_keeps_what_it_has_read(self):
        bridge = Bridge(PLAIN, 2, 2, 3)
        state = (1, 0, (0, 0), (1, 0, 0), (), ())
        self.assertTrue(same(bridge(state, (2, 0)), ((2, 0, (0, 0), (1, 0, 0), (), ()),)))
        self.assertTrue(same(bridge(state, (1, 0)), ((1, 0, (0, 0), (1, 0, 0), (), ()),)))
        self.assertTrue(same(bridge(state, (0, 1)), ((1, 0, (0, 0), (1, 1, 0), (), ()),)))
        self.assertTrue(same(bridge((1, 0, (0, 0), (0, 2, 1), (), ()), (0, 2)), ((1, 1, (0, 0), (1, 0, 2), (), ()),)))

    def test_the_last_one_is_gone_by(self):
        # The writer goes by what it read three beats ago, the reader two beats ago.
        bridge = Bridge(PLAIN, 1, 3, 2)
        self.assertEqual(bridge((1, 1, (0, 0, 1), (0, 0), (), ()), (2, 0))[0][0], 2)
        for looks in ((1, 1, 0), (1, 1, -1), (1, 1, 2), (1, 1, 3)):
            self.assertEqual(bridge((1, 1, looks, (0, 0), (), ()), (2, 0))[0][0], 1)
        self.assertEqual(bridge((2, 1, (0, 0, 1), (0, 2), (), ()), (0, 2))[0][1], 2)
        for glances in ((2, 1), (2, 0), (2, 3), (2, -1)):
            self.assertEqual(bridge((2, 1, (0, 0, 1), glances, (), ()), (0, 2))[0][1], 1)

    def test_depth(self):
        # With depth 3 of four values the writer puts by each value but the one that is right ahead of put.
        bridge = Bridge(PLAIN, 3, 1, 1)
        puts = [look for look in range(-1, 4) if bridge((0, 0, (look,), (0,), (), ()), (2, 0))[0][0] == 1]
        self.assertEqual(puts, [0, 2, 3])
        takes = [glance for glance in range(-1, 4) if bridge((3, 0, (0,), (glance,), (), ()), (0, 2))[0][1] == 1]
        self.assertEqual(takes, [1, 2, 3])
        bridge = Bridge(PLAIN, 1, 1, 1)
        self.assertEqual([look for look in range(-1, 4) if bridge((0, 0, (look,), (0,), (), ()), (2, 0))[0][0]], [0])
        takes = [glance for glance in range(-1, 4) if bridge((1, 0, (0,), (glance,), (), ()), (0, 2))[0][1] == 1]
        self.assertEqual(takes, [1])

    def test_full(self):
        bridge = Bridge(PLAIN, 2, 1, 1)
        full = (2, 0, (1,), (1,), (), ())
        self.assertEqual(bridge(full, (2, 0)), "full")
        # A thing that is taken in the same tick does not help.
        self.assertEqual(bridge(full, (2, 2)), "full")
        self.assertNotIsInstance(bridge(full, (1, 2)), str)
        # More than depth things are full, too; the counters go round.
        self.assertEqual(bridge((0, 1, (3,), (0,), (), ()), (2, 1)), "full")
        self.assertNotIsInstance(bridge((0, 3, (3,), (0,), (), ()), (2, 1)), str)

    def test_empty(self):
        bridge = Bridge(PLAIN, 2, 1, 1)
        empty = (1, 1, (1,), (2,), (), ())
        self.assertEqual(bridge(empty, (0, 2)), "empty")
        # A thing that is put in the same tick does not help.
        self.assertEqual(bridge(empty, (2, 2)), "empty")
        self.assertNotIsInstance(bridge(empty, (2, 1)), str)
        # Only put and taken that are equal are empty.
        self.assertNotIsInstance(bridge((0, 1, (1,), (2,), (), ()), (0, 2)), str)

    def test_full_is_told_ahead_of_empty(self):
        # What is full is never empty; here the reader takes as it should, and the writer breaks the bridge.
        bridge = Bridge(PLAIN, 1, 1, 1)
        self.assertEqual(bridge((2, 1, (2,), (2,), (), ()), (2, 2)), "full")

    def test_slow(self):
        bridge = Bridge(PLAIN, 3, 1, 1, 3)
        # The writer stepped in both ticks before: its counter had value 0 before these steps.
        state = (2, 0, (0,), (0,), (1, 1), (0, 0))
        self.assertTrue(same(bridge(state, (0, 1)), tuple(
            (2, 0, (0,), (glance,), (0, 1), (0, 0)) for glance in range(4))))
        state = (1, 0, (0,), (0,), (0, 1), (0, 0))
        self.assertTrue(same(bridge(state, (0, 1)), tuple(
            (1, 0, (0,), (glance,), (0, 0), (0, 0)) for glance in (0, 1))))
        # What is put goes to the front, and the last tick is forgotten.
        self.assertTrue(same(bridge(state, (2, 0)), ((2, 0, (0,), (0,), (1, 0), (0, 0)),)))
        # The reader takes; the writer reads its counter within the window of its steps.
        state = (3, 1, (0,), (2,), (0, 0), (1, 0))
        self.assertTrue(same(bridge(state, (1, 2)), tuple(
            (3, 2, (look,), (3,), (0, 0), (1, 1)) for look in range(4))))
        state = (3, 1, (0,), (2,), (0, 0), (0, 0))
        self.assertTrue(same(bridge(state, (1, 0)), ((3, 1, (1,), (2,), (0, 0), (0, 0)),)))

    def test_each_pair_of_readings(self):
        bridge = Bridge(PLAIN, 3, 1, 1)
        after = bridge((3, 1, (1,), (3,), (), ()), (2, 2))
        self.assertTrue(same(after, tuple(
            (0, 2, (look,), (glance,), (), ()) for look in range(4) for glance in range(4))))

    def test_against_the_words_of_the_document(self):
        source = random.Random(7)
        kinds = {"full": 0, "empty": 0}
        for bridge in some_bridges(150, 2):
            for state in some_states(bridge, 12, source):
                for beat in BEATS:
                    after = bridge(state, beat)
                    self.assertTrue(same(after, may_come(bridge, state, beat)), (bridge.code.words, state, beat))
                    if isinstance(after, str):
                        kinds[after] += 1
                    else:
                        self.assertEqual(list(after), sorted(set(after)))
                        self.assertTrue(all(is_state(bridge, other) for other in after))
        self.assertTrue(min(kinds.values()) > 100, kinds)

    def test_the_largest(self):
        bridge = Bridge(SIXTEEN_WIDE, 15, 3, 3, 3)
        state = (7, 3, (1, 0, 9), (2, 5, 12), (1, 1), (1, 1))
        for beat in BEATS:
            self.assertTrue(same(bridge(state, beat), may_come(bridge, state, beat)))
        self.assertGreater(len(bridge(state, (2, 2))), 100)


class RefusalsTest(unittest.TestCase):
    def test_no_state_ahead_of_no_beat(self):
        bridge = Bridge(PLAIN, 2, 1, 2, 2)
        for state in near_states() + no_integers():
            for beat in ((1, 1), (0, 0), None):
                with self.assertRaises(NoState):
                    bridge(state, beat)

    def test_no_beat(self):
        bridge = Bridge(PLAIN, 2, 1, 2, 2)
        full = (2, 0, (1,), (1, 1), (0,), (0,))
        for beat in no_beats():
            for state in (first_state(bridge), full):
                with self.assertRaises(NoBeat):
                    bridge(state, beat)
        for beat in BEATS:
            bridge(first_state(bridge), beat)

    def test_states_of_other_bridges(self):
        for one, other in itertools.permutations([Bridge(PLAIN, 2, 1, 1), Bridge(PLAIN, 2, 2, 1),
                                                  Bridge(PLAIN, 2, 1, 2), Bridge(PLAIN, 2, 1, 1, 2)], 2):
            with self.assertRaises(NoState):
                one(first_state(other), (1, 1))
        with self.assertRaises(NoState):
            Bridge(TWO, 1, 1, 1)((2, 0, (0,), (0,), (), ()), (1, 1))


class SameAnswersTest(unittest.TestCase):
    def test_asked_again(self):
        before = {name: repr(thing) for name, thing in vars(module).items() if not name.startswith("__")}
        for bridge in [Bridge(FIVE, 3, 2, 1, 3), Bridge(JOHNSON, 5, 1, 3, 2), Bridge(single(8, 3), 4, 3, 3)]:
            again = Bridge(bridge.code, bridge.depth, bridge.ahead, bridge.behind, bridge.slow)
            for state in some_states(bridge, 20, random.Random(3)):
                for beat in BEATS:
                    self.assertTrue(same(bridge(state, beat), bridge(state, beat)))
                    self.assertTrue(same(bridge(state, beat), again(state, beat)))
            self.assertEqual(bridge, again)
        after = {name: repr(thing) for name, thing in vars(module).items() if not name.startswith("__")}
        self.assertEqual(before, after)
