import random
import unittest

from halfread import crossings as module
from halfread.bridges import Bridge, first_state, is_state
from halfread.codes import Code
from halfread.crossings import Crossing, Limited, LimitedLogged, Logged
from halfread.errors import Broken, NoBeat, NoBridge, NoLook, NoNumber, NothingDone, ReadError, TooMuch
from halfread.making import single

from plain import BEATS, may_come, state_zero, wishes_met
from support import (
    GRAY, JOHNSON, PLAIN, SIXTEEN, SIXTEEN_WIDE, THREE, TWO, no_beats, no_bridges, no_integers, no_integers_from, same,
    some_bridges,
)


def all_kinds(bridge, limit=99):
    """A new crossing of each class."""
    return [Crossing(bridge), Limited(bridge, limit), Logged(bridge), LimitedLogged(bridge, limit)]


def shown(crossing):
    """All that can be seen of a crossing."""
    parts = [crossing.bridge, crossing.state, crossing.ticks, crossing.put, crossing.taken, len(crossing), repr(crossing)]
    if isinstance(crossing, Limited):
        parts.append(crossing.limit)
    if isinstance(crossing, Logged):
        parts.append(crossing.log)
    return parts


def refusal(test, crossing, ask):
    """The exception that ask raises; nothing is changed by it."""
    before = shown(crossing)
    try:
        ask()
    except ReadError as why:
        test.assertEqual(shown(crossing), before)
        return why
    return None


class Plan:
    """What a crossing should show, by the words of the document."""

    def __init__(self, bridge):
        self.bridge, self.limit = bridge, 10 ** 6
        self.moments = [(state_zero(bridge), 0, 0)]
        self.log = []

    def tick(self, beat, look=None, glance=None):
        """What tick should return, or the class of the exception."""
        state, put, taken = self.moments[-1]
        puts, takes = wishes_met(self.bridge, state, beat)
        if puts and put >= self.limit:
            return TooMuch
        after = may_come(self.bridge, state, beat)
        if isinstance(after, str):
            return after
        looks = {other[2][0] for other in after} if beat[0] else set()
        glances = {other[3][0] for other in after} if beat[1] else set()
        if look is not None and look not in looks or glance is not None and glance not in glances:
            return NoLook
        if beat[0] and look is None:
            look = after[0][1]
        if beat[1] and glance is None:
            glance = after[0][0]
        self.moments.append(([other for other in after if (not beat[0] or other[2][0] == look) and (
            not beat[1] or other[3][0] == glance)][0], put + puts, taken + takes))
        self.log.append((beat, look, glance))
        return (puts, takes)

    def undo(self):
        if len(self.moments) == 1:
            return NothingDone
        self.moments.pop()
        self.log.pop()
        return None

    def agrees(self, test, crossing):
        state, put, taken = self.moments[-1]
        test.assertTrue(same((crossing.state, crossing.ticks, crossing.put, crossing.taken),
                             (state, len(self.moments) - 1, put, taken)))
        test.assertEqual(len(crossing), put - taken)
        test.assertEqual([number for number in range(-2, put + 3) if number in crossing], list(range(taken, put)))
        test.assertEqual(repr(crossing), f"{crossing.__class__.__name__}({crossing.ticks} ticks, {put - taken} inside)")
        if isinstance(crossing, Logged):
            test.assertTrue(same(crossing.log, tuple(self.log)))


class InterfaceTest(unittest.TestCase):
    def test_all_is_defined_in_this_file(self):
        for thing in (Crossing, Limited, Logged, LimitedLogged):
            self.assertEqual(thing.__module__, "halfread.crossings")
        for name in ("__init__", "bridge", "state", "ticks", "put", "taken", "tick", "__call__", "run", "undo", "trial",
                     "__len__", "__contains__", "__eq__", "__repr__"):
            self.assertIn(name, vars(Crossing))
        self.assertIn("log", vars(Logged))

    def test_classes(self):
        bridge = Bridge(PLAIN, 2, 1, 1)
        crossing, limited, logged, both = all_kinds(bridge)
        for other in (limited, logged, both):
            self.assertIsInstance(other, Crossing)
        self.assertIsInstance(both, Limited)
        self.assertIsInstance(both, Logged)
        for one, cls in ((limited, Logged), (logged, Limited), (crossing, Limited), (crossing, Logged)):
            self.assertNotIsInstance(one, cls)

    def test_names_of_arguments(self):
        bridge = Bridge(PLAIN, 2, 1, 1)
        crossings = [Crossing(bridge=bridge), Limited(limit=2, bridge=bridge), Logged(bridge=bridge),
                     LimitedLogged(limit=2, bridge=bridge)]
        for crossing in crossings:
            self.assertEqual(crossing.tick(glance=1, look=0, beat=(2, 2)), (True, False))
            self.assertEqual(crossing(beat=(0, 1)), (False, False))
            self.assertEqual(crossing.trial(task=len), 1)
            self.assertEqual(crossing.state, (1, 0, (0,), (1,), (), ()))

    def test_attributes_from_the_beginning(self):
        bridge = Bridge(PLAIN, 2, 1, 1)
        for crossing in all_kinds(bridge, 7):
            self.assertTrue(same((crossing.state, crossing.ticks, crossing.put, crossing.taken),
                                 (first_state(bridge), 0, 0, 0)))
            self.assertIs(crossing.bridge, bridge)
        self.assertTrue(same((Limited(bridge, 7).limit, LimitedLogged(bridge, 7).limit), (7, 7)))
        self.assertTrue(same((Logged(bridge).log, LimitedLogged(bridge, 7).log), ((), ())))


class TickTest(unittest.TestCase):
    def test_worked_out_by_hand(self):
        for crossing in all_kinds(Bridge(PLAIN, 2, 1, 1)):
            self.assertTrue(same(crossing.tick((2, 1)), (True, False)))
            self.assertTrue(same(crossing.state, (1, 0, (0,), (1,), (), ())))
            self.assertTrue(same(crossing.tick((2, 2), 0, 3), (True, True)))
            self.assertTrue(same(crossing.state, (2, 1, (0,), (3,), (), ())))
            # The one thing inside has the number 1; the reader saw 3, which is too far ahead in a queue of 2.
            self.assertEqual((len(crossing), 0 in crossing, 1 in crossing, 2 in crossing), (1, False, True, False))
            self.assertTrue(same(crossing((2, 2)), (False, True)))
            self.assertTrue(same(crossing.state, (2, 2, (2,), (2,), (), ())))
            self.assertEqual((crossing.ticks, crossing.put, crossing.taken, len(crossing)), (3, 2, 2, 0))

    def test_none_stands_for_what_the_counter_has_behind_the_tick(self):
        crossing = Crossing(Bridge(PLAIN, 3, 2, 2))
        crossing.run((2, 0), (2, 0))
        self.assertEqual(crossing.state, (2, 0, (0, 0), (0, 0), (), ()))
        crossing.tick((0, 1))
        crossing.tick((2, 1))
        self.assertEqual(crossing.state, (3, 0, (0, 0), (3, 2), (), ()))
        crossing.tick((1, 2), None, None)
        self.assertEqual(crossing.state, (3, 1, (1, 0), (3, 3), (), ()))

    def test_all_that_may_be_read(self):
        for bridge in some_bridges(40, 61, 8) + [Bridge(THREE, 2, 1, 1), Bridge(SIXTEEN_WIDE, 15, 2, 1, 3)]:
            source = random.Random(len(bridge.code))
            crossing = Logged(bridge)
            for _ in range(12):
                beat = source.choice(BEATS)
                after = may_come(bridge, crossing.state, beat)
                if isinstance(after, str):
                    break
                for look in (None, *range(-3, 18)):
                    for glance in (None, *range(-3, 18)):
                        plan = Plan(bridge)
                        plan.moments[-1] = (crossing.state, 0, 0)
                        right = plan.tick(beat, look, glance)
                        if right is NoLook:
                            why = refusal(self, crossing, lambda: crossing.tick(beat, look, glance))
                            self.assertIs(why.__class__, NoLook)
                        else:
                            self.assertTrue(same(crossing.tick(beat, look, glance), right))
                            self.assertTrue(same(crossing.state, plan.moments[-1][0]))
                            self.assertTrue(same(crossing.log[-1], plan.log[-1]))
                            crossing.undo()
                crossing.tick(beat)

    def test_no_look(self):
        crossing = LimitedLogged(Bridge(PLAIN, 2, 1, 1), 9)
        crossing.tick((2, 1))
        # The writer may read 0, the reader any value.
        for look in no_integers() + [1, 2, 3, 4, -1, -2, -4, 10 ** 12]:
            if look is not None:
                for beat, glance in (((2, 1), None), ((1, 1), None), ((1, 1), 1), ((2, 1), 3), ((2, 1), 4), ((2, 0), 9)):
                    why = refusal(self, crossing, lambda: crossing.tick(beat, look, glance))
                    self.assertIs(why.__class__, NoLook)
        for glance in no_integers() + [4, -1, -2, -4, 10 ** 12]:
            if glance is not None:
                why = refusal(self, crossing, lambda: crossing.tick((2, 1), 0, glance))
                self.assertIs(why.__class__, NoLook)
        # Who has no beat reads nothing, not even what is right.
        for thing in no_integers() + [0, 1, -1, 2]:
            if thing is not None:
                self.assertIs(refusal(self, crossing, lambda: crossing.tick((0, 1), thing)).__class__, NoLook)
                self.assertIs(refusal(self, crossing, lambda: crossing.tick((2, 0), None, thing)).__class__, NoLook)
                self.assertIs(refusal(self, crossing, lambda: crossing.tick((2, 0), 0, thing)).__class__, NoLook)
        self.assertEqual(crossing.tick((2, 1), 0, 0), (True, False))

    def test_a_word_that_is_none(self):
        crossing = Logged(Bridge(THREE, 2, 1, 1))
        crossing.run((2, 1), (2, 2), (1, 2))
        self.assertEqual(crossing.state[:2], (2, 2))
        self.assertIs(refusal(self, crossing, lambda: crossing.tick((1, 1), -1, None)).__class__, NoLook)
        self.assertEqual(crossing.tick((2, 1), None, -1), (True, False))
        self.assertEqual(crossing.state, (0, 2, (2,), (-1,), (), ()))
        self.assertEqual(crossing.log[-1], ((2, 1), 2, -1))
        # By what was no word nothing is taken.
        self.assertEqual(crossing((0, 2)), (False, False))

    def test_no_beat(self):
        for crossing in all_kinds(Bridge(PLAIN, 2, 1, 1), 1):
            crossing.tick((2, 1))
            for beat in no_beats():
                for ask in (lambda: crossing.tick(beat), lambda: crossing(beat), lambda: crossing.tick(beat, 9, True),
                            lambda: crossing.run(beat)):
                    self.assertIs(refusal(self, crossing, ask).__class__, NoBeat)

    def test_broken(self):
        bridge = Bridge(PLAIN, 2, 1, 1, 2)
        for crossing in all_kinds(bridge):
            # The reader reads the next step, still half done, as one that never came.
            crossing.tick((2, 1))
            crossing.tick((2, 2))
            crossing.tick((0, 2), None, 3)
            self.assertEqual(crossing.state, (2, 2, (1,), (3,), (0,), (1,)))
            for beat in ((0, 2), (1, 2), (2, 2)):
                for ask in (lambda: crossing.tick(beat), lambda: crossing(beat), lambda: crossing.run(beat),
                            lambda: crossing.tick(beat, 99, True)):
                    why = refusal(self, crossing, ask)
                    self.assertEqual((why.__class__, why.kind), (Broken, "empty"))
            self.assertEqual(crossing((0, 1)), (False, False))
        for crossing in all_kinds(bridge):
            crossing.run((2, 1), (2, 2), (2, 2))
            crossing.tick((2, 0), 0)
            self.assertEqual(crossing.state[:3], (0, 2, (0,)))
            for beat in ((2, 0), (2, 1), (2, 2)):
                why = refusal(self, crossing, lambda: crossing.tick(beat, True, 99))
                self.assertEqual((why.__class__, why.kind), (Broken, "full"))
            self.assertEqual((len(crossing), crossing.put, crossing.taken), (2, 4, 2))


class RunTest(unittest.TestCase):
    def test_all_or_none(self):
        bridge = Bridge(PLAIN, 2, 1, 1)
        for crossing in all_kinds(bridge):
            self.assertTrue(same(crossing.run(), ()))
            told = crossing.run((2, 1), (2, 2), (0, 2), (1, 0))
            self.assertTrue(same(told, ((True, False), (True, True), (False, True), (False, False))))
            self.assertEqual((crossing.ticks, crossing.put, crossing.taken), (4, 2, 2))
            one_by_one = crossing.__class__(bridge, 99) if isinstance(crossing, Limited) else crossing.__class__(bridge)
            for beat in ((2, 1), (2, 2), (0, 2), (1, 0)):
                one_by_one.tick(beat)
            self.assertEqual(crossing, one_by_one)
            for beats in (((2, 1), (0, 0)), ((2, 1), None, (2, 2)), ((0, 0), (2, 1)), ((2, 1), (2, 2), [1, 1])):
                self.assertIs(refusal(self, crossing, lambda: crossing.run(*beats)).__class__, NoBeat)
            crossing.undo()
            self.assertEqual((crossing.ticks, crossing.put, crossing.taken), (3, 2, 2))

    def test_the_first_refused_one(self):
        bridge = Bridge(PLAIN, 2, 1, 1, 2)
        crossing = LimitedLogged(bridge, 3)
        crossing.tick((2, 1))
        crossing.tick((2, 2))
        crossing.tick((0, 2), None, 3)
        self.assertIs(refusal(self, crossing, lambda: crossing.run((1, 0), (0, 2), (0, 0))).__class__, Broken)
        self.assertIs(refusal(self, crossing, lambda: crossing.run((1, 0), (0, 0), (0, 2))).__class__, NoBeat)
        self.assertIs(refusal(self, crossing, lambda: crossing.run((2, 1), (2, 1), None)).__class__, TooMuch)
        self.assertIs(refusal(self, crossing, lambda: crossing.run((2, 1), None, (2, 1))).__class__, NoBeat)
        self.assertEqual(crossing.run((2, 1), (1, 1)), ((True, False), (False, False)))

    def test_long(self):
        bridge = Bridge(single(16, 4), 9, 3, 3, 3)
        for crossing in all_kinds(bridge):
            told = crossing.run(*[(2, 2)] * 60)
            self.assertEqual((len(told), crossing.ticks), (60, 60))
            self.assertEqual(sum(puts for puts, _ in told), crossing.put)
            self.assertEqual(sum(takes for _, takes in told), crossing.taken)
            for _ in range(60):
                crossing.undo()
            self.assertIn(crossing, all_kinds(bridge))


class UndoTest(unittest.TestCase):
    def test_down_to_the_first_state(self):
        bridge = Bridge(PLAIN, 2, 1, 1)
        for crossing in all_kinds(bridge):
            seen = [shown(crossing)]
            for beat in ((2, 1), (2, 2), (0, 2)):
                crossing.tick(beat)
                seen.append(shown(crossing))
            crossing.run((2, 2), (1, 2))
            crossing.undo()
            seen.append(shown(crossing))
            while len(seen) > 1:
                self.assertEqual(shown(crossing), seen.pop())
                self.assertIsNone(crossing.undo())
            self.assertEqual(shown(crossing), seen[0])
            for _ in range(2):
                self.assertIs(refusal(self, crossing, crossing.undo).__class__, NothingDone)
            self.assertEqual(crossing.tick((2, 1)), (True, False))

    def test_what_is_taken_back_is_left_out(self):
        crossing = Logged(Bridge(PLAIN, 2, 1, 1))
        crossing.run((2, 1), (2, 2))
        self.assertEqual((crossing.put, crossing.taken, crossing.ticks), (2, 1, 2))
        crossing.undo()
        self.assertEqual((crossing.put, crossing.taken, crossing.ticks), (1, 0, 1))
        self.assertEqual(crossing.log, (((2, 1), 0, 1),))
        self.assertEqual([number for number in range(4) if number in crossing], [0])


class Failure(Exception):
    pass


class TrialTest(unittest.TestCase):
    def setUp(self):
        self.crossings = all_kinds(Bridge(PLAIN, 2, 1, 1), 5)
        for crossing in self.crossings:
            crossing.run((2, 1), (2, 2))

    def test_ends_well(self):
        for crossing in self.crossings:
            asked = []

            def task(given):
                asked.append(given)
                given.run((1, 2), (2, 0))
                return [given.ticks, given]

            told = crossing.trial(task)
            self.assertEqual(told[0], 4)
            self.assertIs(told[1], crossing)
            self.assertIs(asked[0], crossing)
            self.assertEqual(len(asked), 1)
            self.assertEqual((crossing.ticks, crossing.put, crossing.taken), (4, 3, 2))
            self.assertIsNone(crossing.trial(lambda given: None))
            for _ in range(4):
                crossing.undo()
            self.assertIs(refusal(self, crossing, crossing.undo).__class__, NothingDone)

    def test_exceptions(self):
        for why in (Failure(), KeyError("x"), ZeroDivisionError(), StopIteration(), KeyboardInterrupt(), SystemExit(1),
                    GeneratorExit(), NoBeat(), RecursionError(), AssertionError()):
            for crossing in self.crossings:
                before = shown(crossing)

                def task(given):
                    given.run((1, 2), (2, 0))
                    given.undo()
                    given.tick((2, 2))
                    raise why

                with self.assertRaises(why.__class__) as caught:
                    crossing.trial(task)
                self.assertIs(caught.exception, why)
                self.assertEqual(shown(crossing), before)

    def test_refused_within(self):
        for crossing in self.crossings:
            for ask, cls in ((lambda given: given.run((1, 1), (0, 0)), NoBeat), (lambda given: given.tick((1, 1), 9), NoLook),
                             (lambda given: [given.undo() for _ in range(3)], NothingDone)):
                why = refusal(self, crossing, lambda: crossing.trial(lambda given: [given((1, 0)), given.undo(), ask(given)]))
                self.assertIs(why.__class__, cls)

    def test_undo_beyond_the_beginning(self):
        for crossing in self.crossings:
            before = shown(crossing)

            def fails(given):
                given.undo()
                given.undo()
                given.run((2, 0), (0, 1), (0, 2), (2, 2))
                raise Failure

            for _ in range(2):
                with self.assertRaises(Failure):
                    crossing.trial(fails)
                self.assertEqual(shown(crossing), before)
            crossing.undo()
            self.assertEqual((crossing.ticks, crossing.put, crossing.taken), (1, 1, 0))
            self.assertEqual(crossing.state, (1, 0, (0,), (1,), (), ()))
            # What was taken back in a trial that ends well stays taken back.
            crossing.trial(lambda given: given.undo())
            self.assertEqual((crossing.ticks, crossing.state), (0, first_state(crossing.bridge)))

    def test_one_within_the_other(self):
        for crossing in self.crossings:
            before = shown(crossing)
            seen = []

            def inner(given):
                given.undo()
                given.undo()
                given.tick((0, 1))
                raise Failure

            def good(given):
                given.undo()
                return given.ticks

            def outer(given):
                given.tick((1, 2))
                seen.append(shown(given))
                try:
                    given.trial(inner)
                except Failure:
                    seen.append(shown(given))
                seen.append(given.trial(good))
                given.tick((2, 2))
                seen.append(given.ticks)
                if len(seen) > 4:
                    raise Failure
                return "done"

            self.assertEqual(crossing.trial(outer), "done")
            self.assertEqual(seen[0], seen[1])
            self.assertEqual(seen[2:], [2, 3])
            self.assertEqual(crossing.ticks, 3)
            crossing.undo()
            self.assertEqual(shown(crossing), before)
            with self.assertRaises(Failure):
                crossing.trial(outer)
            self.assertEqual(shown(crossing), before)

    def test_a_failing_trial_within_one_that_fails(self):
        for crossing in self.crossings:
            before = shown(crossing)

            def deep(given, depth=0):
                given.tick(BEATS[depth % len(BEATS)])
                given.undo()
                given.tick((1, 1))
                if depth == 30:
                    raise Failure
                return given.trial(lambda again: deep(again, depth + 1))

            with self.assertRaises(Failure):
                crossing.trial(deep)
            self.assertEqual(shown(crossing), before)

    def test_no_function(self):
        for crossing in self.crossings:
            before = shown(crossing)
            for task in (None, 1, "run", ()):
                with self.assertRaises(TypeError):
                    crossing.trial(task)
            self.assertEqual(shown(crossing), before)


class EqualTest(unittest.TestCase):
    def test_equal(self):
        for one, other in zip(all_kinds(Bridge(PLAIN, 2, 1, 1)), all_kinds(Bridge(Code(*PLAIN.words), 2, 1, 1))):
            for beat in ((2, 1), (1, 2), (2, 2)):
                self.assertIs(one == other, True)
                self.assertIs(one != other, False)
                one(beat)
                if beat != (2, 2):
                    other.tick(beat)
            self.assertIs(one == other, False)
            self.assertIs(one != other, True)

    def test_how_many_ticks_does_not_count(self):
        bridge = Bridge(PLAIN, 2, 1, 1)
        one, other = Crossing(bridge), Crossing(bridge)
        one.run((0, 1), (1, 0))
        self.assertEqual((one.ticks, other.ticks), (2, 0))
        self.assertTrue(one == other)
        self.assertTrue(Limited(bridge, 3) == one.trial(lambda given: Limited(bridge, 3)))
        # Logs do.
        one, other = Logged(bridge), Logged(bridge)
        one.run((0, 1), (1, 0))
        self.assertFalse(one == other)
        other.run((1, 0), (0, 1))
        self.assertEqual(one.state, other.state)
        self.assertFalse(one == other)
        self.assertTrue(one != other)

    def test_classes_count(self):
        bridge = Bridge(PLAIN, 2, 1, 1)
        crossings = all_kinds(bridge) + [Limited(bridge, 98), LimitedLogged(bridge, 98), Crossing(Bridge(PLAIN, 1, 1, 1))]
        for at, one in enumerate(crossings):
            for place, other in enumerate(crossings):
                self.assertIs(one == other, at == place)
                self.assertIs(one != other, at != place)

    def test_put_and_taken_count(self):
        # Round the ring all is as at first, but four things have come and gone.
        bridge = Bridge(TWO, 1, 1, 1)
        one = Crossing(bridge)
        one.run(*[(2, 0), (0, 1), (0, 2), (1, 0)] * 2)
        self.assertEqual((one.state, one.put, one.taken), (first_state(bridge), 2, 2))
        self.assertFalse(one == Crossing(bridge))
        self.assertTrue(one != Crossing(bridge))

    def test_states_count(self):
        bridge = Bridge(PLAIN, 2, 1, 1)
        one, other = Crossing(bridge), Crossing(bridge)
        one.tick((2, 1), None, 0)
        other.tick((2, 1), None, 1)
        self.assertFalse(one == other)
        self.assertEqual((one.put, one.taken, one.ticks), (other.put, other.taken, other.ticks))

    def test_nothing_else(self):
        bridge = Bridge(PLAIN, 2, 1, 1)
        for one in all_kinds(bridge):
            for thing in no_integers() + no_bridges()[-1:] + [bridge, 0, 1, Crossing, one.state, repr(one), [one], (one,)]:
                self.assertIs(one == thing, False)
                self.assertIs(one != thing, True)


class InsideTest(unittest.TestCase):
    def test_numbers_of_things(self):
        crossing = Crossing(Bridge(JOHNSON, 4, 1, 1))
        crossing.run((2, 2), (2, 1), (2, 2), (2, 2))
        self.assertEqual((crossing.put, crossing.taken, len(crossing)), (4, 2, 2))
        self.assertEqual([number for number in range(-7, 12) if number in crossing], [2, 3])
        for thing in no_integers() + [crossing, (2,), [3], "2", "3", 2 + 6, 3 - 6, 10 ** 12, -1]:
            self.assertIs(thing in crossing, False)
        self.assertIs(2 in crossing, True)

    def test_true_is_no_number(self):
        crossing = Crossing(Bridge(JOHNSON, 4, 1, 1))
        crossing.run((2, 0), (2, 0))
        self.assertEqual([number in crossing for number in (0, 1, 2)], [True, True, False])
        self.assertEqual([thing in crossing for thing in (False, True)], [False, False])

    def test_numbers_go_on_beyond_the_ring(self):
        crossing = Crossing(Bridge(TWO, 1, 1, 1))
        crossing.run(*[(2, 0), (0, 1), (0, 2), (1, 0)] * 20)
        crossing.tick((2, 0))
        self.assertEqual((crossing.put, crossing.taken), (21, 20))
        self.assertEqual([number for number in range(30) if number in crossing], [20])

    def test_repr(self):
        names = []
        for crossing in all_kinds(Bridge(PLAIN, 2, 1, 1)):
            names.append(repr(crossing))
            crossing.run((2, 1), (1, 1), (2, 1))
            names.append(repr(crossing))
        self.assertEqual(names, [
            "Crossing(0 ticks, 0 inside)", "Crossing(3 ticks, 2 inside)", "Limited(0 ticks, 0 inside)",
            "Limited(3 ticks, 2 inside)", "Logged(0 ticks, 0 inside)", "Logged(3 ticks, 2 inside)",
            "LimitedLogged(0 ticks, 0 inside)", "LimitedLogged(3 ticks, 2 inside)"])
        crossing = Crossing(Bridge(PLAIN, 2, 1, 1))
        crossing.tick((2, 1))
        self.assertEqual(repr(crossing), "Crossing(1 ticks, 1 inside)")


class LimitedTest(unittest.TestCase):
    def limited(self, bridge, limit):
        return [Limited(bridge, limit), LimitedLogged(bridge, limit)]

    def test_limit(self):
        for limit in (1, 2, 3):
            for crossing in self.limited(Bridge(JOHNSON, 5, 1, 1), limit):
                self.assertEqual(crossing.run(*[(2, 0)] * limit), ((True, False),) * limit)
                for ask in (lambda: crossing.tick((2, 0)), lambda: crossing((2, 1)), lambda: crossing.run((1, 1), (2, 0)),
                            lambda: crossing.tick((2, 2), 9, True), lambda: crossing.tick((2, 0), None, 0)):
                    self.assertIs(refusal(self, crossing, ask).__class__, TooMuch)
                # Things that are taken leave no place for others, but those taken back do.
                self.assertEqual(crossing.run((1, 1), (0, 2)), ((False, False), (False, True)))
                self.assertIs(refusal(self, crossing, lambda: crossing((2, 0))).__class__, TooMuch)
                for _ in range(3):
                    crossing.undo()
                self.assertEqual(crossing.tick((2, 0)), (True, False))

    def test_99(self):
        for crossing in self.limited(Bridge(TWO, 1, 1, 1), 99):
            lap = [(2, 0), (0, 1), (0, 2), (1, 0)]
            crossing.run(*lap * 99)
            self.assertEqual((crossing.put, crossing.taken), (99, 99))
            self.assertIs(refusal(self, crossing, lambda: crossing((2, 0))).__class__, TooMuch)
            self.assertEqual(crossing((1, 2)), (False, False))

    def test_only_what_would_be_put(self):
        for crossing in self.limited(Bridge(PLAIN, 1, 1, 1), 1):
            crossing.tick((2, 1))
            # The queue is full, so that the writer's wish is in vain.
            self.assertEqual(crossing.tick((2, 1)), (False, False))
            self.assertEqual(crossing.tick((1, 2)), (False, True))
            self.assertIs(refusal(self, crossing, lambda: crossing((2, 1))).__class__, TooMuch)
            for beat in ((1, 0), (1, 1), (0, 1), (1, 2), (0, 2)):
                crossing.tick(beat)
                crossing.undo()

    def test_order(self):
        bridge = Bridge(PLAIN, 2, 1, 1, 2)
        for crossing in self.limited(bridge, 4):
            crossing.run((2, 1), (2, 2), (2, 2))
            crossing.tick((2, 0), 0)
            # This tick would break the bridge, too.
            self.assertIs(refusal(self, crossing, lambda: crossing.tick((2, 0), 9, 9)).__class__, TooMuch)
            self.assertIs(refusal(self, crossing, lambda: crossing.tick((2, 3), 9, 9)).__class__, NoBeat)
        for crossing in self.limited(bridge, 5):
            crossing.run((2, 1), (2, 2), (2, 2))
            crossing.tick((2, 0), 0)
            self.assertIs(refusal(self, crossing, lambda: crossing.tick((2, 0), 9, 9)).__class__, Broken)
        for crossing in self.limited(bridge, 2):
            crossing.tick((2, 1))
            crossing.tick((2, 2))
            crossing.tick((1, 2), None, 3)
            self.assertEqual(crossing.state, (2, 2, (2,), (3,), (0,), (1,)))
            self.assertIs(refusal(self, crossing, lambda: crossing((2, 2))).__class__, TooMuch)
            self.assertIs(refusal(self, crossing, lambda: crossing((1, 2))).__class__, Broken)

    def test_refuses(self):
        for limited in (Limited, LimitedLogged):
            for bridge in no_bridges():
                for limit in (1, 0, None):
                    with self.assertRaises(NoBridge):
                        limited(bridge, limit)
            for limit in no_integers_from(1, 99):
                with self.assertRaises(NoNumber):
                    limited(Bridge(PLAIN, 2, 1, 1), limit)
            for limit in (1, 50, 99):
                self.assertTrue(same(limited(Bridge(PLAIN, 2, 1, 1), limit).limit, limit))
        for other in (Crossing, Logged):
            for bridge in no_bridges():
                with self.assertRaises(NoBridge):
                    other(bridge)


class LoggedTest(unittest.TestCase):
    def test_log(self):
        bridge = Bridge(PLAIN, 2, 1, 1)
        for crossing in (Logged(bridge), LimitedLogged(bridge, 9)):
            crossing.tick((2, 1), None, 0)
            crossing.tick((2, 0))
            crossing.tick((0, 1), None, 2)
            crossing.run((1, 2))
            right = (((2, 1), 0, 0), ((2, 0), 0, None), ((0, 1), None, 2), ((1, 2), 1, 2))
            self.assertTrue(same(crossing.log, right))
            refusal(self, crossing, lambda: crossing.run((1, 1), (0, 0)))
            self.assertTrue(same(crossing.log, right))
            crossing.undo()
            self.assertTrue(same(crossing.log, right[:-1]))
            with self.assertRaises(Failure):
                crossing.trial(self.fails)
            self.assertTrue(same(crossing.log, right[:-1]))

    def fails(self, crossing):
        crossing.undo()
        crossing.run((1, 1), (2, 2))
        raise Failure

    def test_the_log_tells_how_to_come_there(self):
        source = random.Random(9)
        bridge = Bridge(THREE, 2, 2, 1, 2)
        one = Logged(bridge)
        for _ in range(60):
            beat = source.choice([beat for beat in BEATS if not isinstance(bridge(one.state, beat), str)])
            state = source.choice(bridge(one.state, beat))
            one.tick(beat, state[2][0] if beat[0] else None, state[3][0] if beat[1] else None)
            self.assertEqual(one.state, state)
        other = Logged(bridge)
        for row in one.log:
            other.tick(*row)
        self.assertEqual(one, other)
        self.assertEqual(one.ticks, 60)


class WalkTest(unittest.TestCase):
    def test_against_the_words_of_the_document(self):
        source = random.Random(77)
        seen = {}
        for bridge in some_bridges(60, 71) + some_bridges(60, 72, 6):
            for crossing in all_kinds(bridge, source.randint(1, 6)):
                plan = Plan(bridge)
                plan.limit = crossing.limit if isinstance(crossing, Limited) else 10 ** 6
                for _ in range(30):
                    self.step(source, crossing, plan, seen)
        self.assertTrue({TooMuch, NothingDone, NoLook, "full", "empty", "done"} <= set(seen), seen)
        self.assertGreater(min(seen.values()), 5, seen)

    def step(self, source, crossing, plan, seen):
        if source.random() < 0.15:
            right = plan.undo()
            why = refusal(self, crossing, crossing.undo)
            self.assertIs(why.__class__ if why else None, right)
            seen[right or "undone"] = seen.get(right or "undone", 0) + 1
        else:
            beat = source.choice(BEATS + [(2, 2)] * 4)
            last = len(crossing.bridge.code) - 1
            look, glance = [source.choice([None, None, source.randint(-1, last)]) if side else None for side in beat]
            before = shown(crossing)
            right = plan.tick(beat, look, glance)
            try:
                answer = crossing.tick(beat, look, glance)
            except Broken as why:
                answer = why.kind
            except ReadError as why:
                answer = why.__class__
            self.assertTrue(same(answer, right) or answer is right, (answer, right))
            if not isinstance(answer, tuple):
                self.assertEqual(shown(crossing), before)
            kind = "done" if isinstance(answer, tuple) else answer
            seen[kind] = seen.get(kind, 0) + 1
        plan.agrees(self, crossing)
        self.assertTrue(is_state(crossing.bridge, crossing.state))


class SameAnswersTest(unittest.TestCase):
    def test_asked_again(self):
        before = {name: repr(thing) for name, thing in vars(module).items() if not name.startswith("__")}
        bridge = Bridge(GRAY, 2, 1, 2, 2)
        for one, other in zip(all_kinds(bridge), all_kinds(bridge)):
            for beat in ((2, 1), (2, 2), (1, 2), (0, 2)):
                self.assertTrue(same(one(beat), other(beat)))
                self.assertTrue(same(one.state, other.state))
                self.assertEqual(shown(one), shown(one))
        self.assertEqual(bridge, Bridge(GRAY, 2, 1, 2, 2))
        after = {name: repr(thing) for name, thing in vars(module).items() if not name.startswith("__")}
        self.assertEqual(before, after)

    def test_crossings_do_not_touch_each_other(self):
        bridge = Bridge(SIXTEEN, 15, 1, 1)
        one, other = Logged(bridge), Logged(bridge)
        one.run((2, 2), (2, 2))
        self.assertEqual((other.ticks, other.log, other.state), (0, (), first_state(bridge)))
        self.assertEqual(len(one.log), 2)

    def test_not_walked_over(self):
        crossing = Crossing(Bridge(PLAIN, 2, 1, 1))
        with self.assertRaises(TypeError):
            list(crossing)
