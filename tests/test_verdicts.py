import unittest

from halfread import verdicts as module
from halfread.bridges import Bridge, first_state
from halfread.codes import Code
from halfread.errors import NoBridge, TooMany
from halfread.making import single
from halfread.readings import tolerance
from halfread.verdicts import shows_verdict, verdict

from plain import BEATS, may_come, verdict_of
from support import (
    GRAY, JOHNSON, NAMED, PLAIN, SIXTEEN, SIXTEEN_WIDE, THREE, TWO, no_bridges, no_integers, same, some_bridges,
    some_codes, word_of,
)


def code_of(text):
    return Code.read(text.replace(" ", "\n") + "\n")


# Bridges of which just 3,000 and 3,001 states come up, some of which can break.
MANY = [
    (3000, False, "00100 01001 01111 00111 11100 00101 10100 01100 11001 01011 10000 00001", (2, 3, 3, 1)),
    (3001, False, "1100 0001 0111 0101 1111 1101 0100", (4, 3, 1, 1)),
    (3000, True, "01100 11111 00110 11000 11100 11001", (5, 1, 1, 2)),
    (3001, True, "1101 1100 1111 0101 0000 1010", (5, 1, 1, 2)),
]

# The states that come up from the first one: a thing is put, seen, taken, and seen to be taken; then the same again
# with the other value of each counter.
TWO_STATES = (
    (0, 0, (0,), (0,), (), ()), (0, 0, (1,), (0,), (), ()), (0, 1, (1,), (0,), (), ()), (0, 1, (1,), (1,), (), ()),
    (1, 0, (0,), (0,), (), ()), (1, 0, (0,), (1,), (), ()), (1, 1, (0,), (1,), (), ()), (1, 1, (1,), (1,), (), ()),
)


class InterfaceTest(unittest.TestCase):
    def test_all_is_defined_in_this_file(self):
        for thing in (verdict, shows_verdict):
            self.assertEqual(thing.__module__, "halfread.verdicts")

    def test_names_of_arguments(self):
        bridge = Bridge(PLAIN, 1, 1, 1)
        self.assertEqual(verdict(bridge=bridge), verdict(bridge))
        self.assertIs(shows_verdict(thing=verdict(bridge), bridge=bridge), True)

    def test_refuses_no_bridge(self):
        for bridge in no_bridges():
            with self.assertRaises(NoBridge):
                verdict(bridge)
            for thing in (None, ("safe", ()), ("broken", ()), bridge):
                with self.assertRaises(NoBridge):
                    shows_verdict(bridge, thing)


class VerdictTest(unittest.TestCase):
    def test_safe(self):
        self.assertTrue(same(verdict(Bridge(TWO, 1, 1, 1)), ("safe", TWO_STATES)))

    def test_broken(self):
        # Behind the second tick the reader still reads 0, in the third the writer the old 0, the reader the new 2;
        # in the fourth the step from 1 to 2 is still half done, and the reader reads 3, a thing that never came.
        run = (
            ((2, 1), (1, 0, (0,), (1,), (1,), (0,))),
            ((1, 2), (1, 1, (1,), (0,), (0,), (1,))),
            ((2, 1), (2, 1, (0,), (2,), (1,), (0,))),
            ((0, 2), (2, 2, (0,), (3,), (0,), (1,))),
            ((0, 2), "empty"),
        )
        self.assertTrue(same(verdict(Bridge(PLAIN, 1, 1, 1, 2)), ("broken", run)))

    def test_beats_of_one_clock_alone(self):
        # Who sees the other later waits for the next beat of its own, and that of one clock alone is the smallest one.
        beats = {}
        for numbers in ((1, 1, 2, 2), (1, 2, 1, 2), (1, 2, 2, 2), (1, 3, 1, 2)):
            told = verdict(Bridge(PLAIN, *numbers))
            self.assertTrue(same(told, verdict_of(Bridge(PLAIN, *numbers))[0]))
            beats[numbers] = [beat for beat, _ in told[1]]
        self.assertEqual(beats, {
            (1, 1, 2, 2): [(2, 1), (0, 1), (1, 2), (2, 1), (0, 1), (0, 2), (0, 2)],
            (1, 2, 1, 2): [(2, 1), (1, 2), (1, 0), (2, 1), (0, 2), (0, 2)],
            (1, 2, 2, 2): [(2, 1), (0, 1), (1, 2), (1, 0), (2, 1), (0, 1), (0, 2), (0, 2)],
            (1, 3, 1, 2): [(2, 1), (1, 2), (1, 0), (1, 0), (2, 1), (0, 2), (0, 2)],
        })

    def test_against_the_words_of_the_document(self):
        kinds = {"safe": 0, "broken": 0, "many": 0}
        for bridge in some_bridges(150, 5, 6):
            try:
                told = verdict(bridge)
            except TooMany:
                kinds["many"] += 1
                continue
            if len(told[1]) > 400:
                continue
            right, many = verdict_of(bridge)
            self.assertTrue(same(told, right), (bridge.code.words, bridge))
            self.assertLessEqual(many, 3000)
            kinds[told[0]] += 1
        self.assertGreater(min(kinds.values()), 15, kinds)

    def test_slow_1_is_safe(self):
        codes = [code for code in NAMED + some_codes(40, 8) if len(code) <= 9]
        told = 0
        for code in codes:
            for depth in {1, len(code) - 1}:
                for ahead, behind in ((1, 1), (2, 1)):
                    try:
                        self.assertEqual(verdict(Bridge(code, depth, ahead, behind))[0], "safe")
                        told += 1
                    except TooMany:
                        pass
        self.assertGreater(told, 60)

    def test_any_slow_is_safe_that_the_code_tolerates(self):
        told = {2: 0, 3: 0}
        eight = code_of("0000 0001 0011 0111 1111 1110 1100 1000")
        for code in [TWO, GRAY, JOHNSON, eight, single(6, 3), THREE] + some_codes(200, 3):
            for slow in (2, 3):
                for depth in range(1, len(code) - slow + 1):
                    if slow <= tolerance(code):
                        try:
                            self.assertEqual(verdict(Bridge(code, depth, 1, 1, slow))[0], "safe")
                            told[slow] += 1
                        except TooMany:
                            pass
        self.assertGreater(min(told.values()), 1, told)

    def test_a_depth_above_that_can_break(self):
        # Six values tolerate a span of 2; with slow 2 they bear a depth of 4, and none of 5.
        self.assertEqual(tolerance(JOHNSON), 2)
        self.assertEqual([verdict(Bridge(JOHNSON, depth, 1, 1, 2))[0] for depth in range(1, 6)],
                         ["safe"] * 4 + ["broken"])

    def test_overview(self):
        self.assertEqual(verdict(Bridge(PLAIN, 1, 1, 1))[0], "safe")
        self.assertEqual(verdict(Bridge(PLAIN, 1, 1, 1, 2))[0], "broken")


class TooManyTest(unittest.TestCase):
    def test_exactly(self):
        for many, breaks, text, numbers in MANY:
            bridge = Bridge(code_of(text), *numbers)
            if many == 3000:
                told = verdict(bridge)
                self.assertEqual(told[0], "broken" if breaks else "safe")
                self.assertTrue(breaks or len(told[1]) == 3000)
                self.assertIs(shows_verdict(bridge, told), True)
            else:
                with self.assertRaises(TooMany) as caught:
                    verdict(bridge)
                self.assertTrue(same(caught.exception.limit, 3000))
        self.assertEqual({(many, breaks) for many, breaks, _, _ in MANY},
                         {(3000, False), (3001, False), (3000, True), (3001, True)})

    def test_the_largest(self):
        for code in (SIXTEEN, SIXTEEN_WIDE, single(16, 4)):
            for ahead, behind in ((1, 1), (3, 3)):
                with self.assertRaises(TooMany):
                    verdict(Bridge(code, 15, ahead, behind, 3))

    def test_what_is_shown_may_be_told_though_there_are_too_many(self):
        # The run breaks the bridge with plain words of four bits, whatever else comes up.
        bridge = Bridge(SIXTEEN, 2, 1, 1, 2)
        with self.assertRaises(TooMany):
            verdict(bridge)
        run = (
            ((2, 1), (1, 0, (0,), (1,), (1,), (0,))),
            ((1, 2), (1, 1, (1,), (0,), (0,), (1,))),
            ((2, 1), (2, 1, (0,), (2,), (1,), (0,))),
            ((0, 2), (2, 2, (0,), (3,), (0,), (1,))),
            ((0, 2), "empty"),
        )
        self.assertIs(shows_verdict(bridge, ("broken", run)), True)
        self.assertIs(shows_verdict(bridge, ("broken", run[:-1])), False)
        self.assertIs(shows_verdict(bridge, ("safe", ())), False)


def closed(bridge, states):
    """The states, and all that come of them; None if the bridge breaks."""
    found, ahead = set(), list(states)
    while ahead:
        state = ahead.pop()
        if state not in found:
            found.add(state)
            for beat in BEATS:
                after = may_come(bridge, state, beat)
                if isinstance(after, str):
                    return None
                ahead.extend(after)
    return found


class ShowsSafeTest(unittest.TestCase):
    def setUp(self):
        self.bridge = Bridge(PLAIN, 2, 1, 1)
        self.states = verdict(self.bridge)[1]

    def test_in_any_order(self):
        for states in (self.states, self.states[::-1], self.states[7:] + self.states[:7]):
            self.assertIs(shows_verdict(self.bridge, ("safe", states)), True)

    def test_more_states_than_come_up(self):
        others = [(put, 0, (look,), (glance,), (), ()) for put in (0, 1, 2) for look in (-1, 0, 1, 2, 3)
                  for glance in (-1, 0, 1, 2, 3)]
        more = 0
        for state in others:
            found = closed(self.bridge, [*self.states, state])
            if found is None:
                self.assertIs(shows_verdict(self.bridge, ("safe", (*self.states, state))), False)
            else:
                more += len(found) > len(self.states)
                self.assertIs(shows_verdict(self.bridge, ("safe", tuple(found))), True)
        self.assertGreater(more, 0)

    def test_each_state_is_needed(self):
        for at in range(len(self.states)):
            less = self.states[:at] + self.states[at + 1:]
            self.assertIs(shows_verdict(self.bridge, ("safe", less)), False)
            self.assertIs(shows_verdict(self.bridge, ("safe", self.states + (self.states[at],))), False)

    def test_the_first_state_is_needed(self):
        # With two things where one has its place, nothing is put or taken any more.
        bridge = Bridge(PLAIN, 1, 1, 1)
        stuck = (2, 0, (0,), (2,), (), ())
        self.assertEqual(closed(bridge, [stuck]), {stuck})
        self.assertIs(shows_verdict(bridge, ("safe", (stuck,))), False)
        self.assertIs(shows_verdict(bridge, ("safe", (stuck, *verdict(bridge)[1]))), True)
        self.assertIs(shows_verdict(bridge, ("safe", ())), False)

    def test_wrong_kinds(self):
        states = self.states
        one = (1, 0, (0,), (1,), (), ())
        self.assertIn(one, states)
        rest = tuple(state for state in states if state != one)
        self.assertIs(shows_verdict(self.bridge, ("safe", (*rest, one))), True)
        for instead in [(True, 0, (0,), (1,), (), ()), (1, False, (0,), (1,), (), ()), (1, 0, (False,), (1,), (), ()),
                        (1, 0, (0,), (True,), (), ()), [1, 0, (0,), (1,), (), ()], (1, 0, [0], (1,), (), ()),
                        (1, 0, (0,), (1,), [], ()), (1, 0, (0,), (1,), (), []), (1, 0, (0,), (1,), ()),
                        (1, 0, (0,), (1,), (), (), ()), (1, 0, (0, 0), (1,), (), ()), None, "1", 1, ((1, 1), one)]:
            self.assertIs(shows_verdict(self.bridge, ("safe", (*rest, instead))), False)
            self.assertIs(shows_verdict(self.bridge, ("safe", (*states, instead))), False)
        for thing in [list(("safe", states)), ("safe", list(states)), ("safe",), ("safe", states, ()), (states, "safe"),
                      ("broken", states), ("Safe", states), ("", states), (None, states), (True, states), "safe",
                      states, ("safe", {state: True for state in states}), ("safe", None), ("safe", ()), ("safe", one),
                      (PLAIN, states), (self.bridge, states), (("safe",), states)] + no_integers():
            before = repr(thing)
            self.assertIs(shows_verdict(self.bridge, thing), False)
            self.assertEqual(repr(thing), before)

    def test_no_other_bridge(self):
        for other in (Bridge(PLAIN, 1, 1, 1), Bridge(PLAIN, 3, 1, 1), Bridge(GRAY, 2, 1, 1), Bridge(PLAIN, 2, 1, 2),
                      Bridge(PLAIN, 2, 1, 1, 2)):
            self.assertIs(shows_verdict(other, ("safe", self.states)), closed(other, self.states) == set(self.states)
                          if other.slow == 1 and other.behind == 1 else False)

    def test_what_can_break(self):
        bridge = Bridge(PLAIN, 1, 1, 1, 2)
        found, ahead = set(), [first_state(bridge)]
        while ahead:
            state = ahead.pop()
            if state not in found:
                found.add(state)
                ahead += [other for beat in BEATS for other in may_come(bridge, state, beat)
                          if not isinstance(may_come(bridge, state, beat), str)]
        # All that comes up is there, but some of it can break.
        self.assertIs(shows_verdict(bridge, ("safe", tuple(sorted(found)))), False)


class ShowsBrokenTest(unittest.TestCase):
    def setUp(self):
        self.bridge = Bridge(PLAIN, 1, 1, 1, 2)
        self.run = verdict(self.bridge)[1]

    def test_longer_runs(self):
        first = first_state(self.bridge)
        for many in (1, 2, 50, 3000):
            run = (((0, 1), first),) * many + self.run
            self.assertIs(shows_verdict(self.bridge, ("broken", run)), True)

    def test_other_runs(self):
        # The writer may see the thing taken at once, and puts the next one all the same.
        run = (
            ((2, 1), (1, 0, (0,), (1,), (1,), (0,))),
            ((1, 2), (1, 1, (1,), (1,), (0,), (1,))),
            ((2, 1), (2, 1, (1,), (2,), (1,), (0,))),
            ((1, 2), (2, 2, (1,), (3,), (0,), (1,))),
            ((1, 2), "empty"),
        )
        self.assertIs(shows_verdict(self.bridge, ("broken", run)), True)
        for other in (Bridge(PLAIN, 1, 1, 1), Bridge(GRAY, 1, 1, 1, 2), Bridge(PLAIN, 2, 1, 1, 3)):
            self.assertIs(shows_verdict(other, ("broken", run)), False)

    def test_runs_to_what_is_full(self):
        # Behind the third tick the writer reads the true 2, behind the fourth the reader's step from 1 to 2, still half
        # done, as 0; so it puts a third thing where two have their place.
        bridge = Bridge(PLAIN, 2, 1, 1, 2)
        run = (
            ((2, 1), (1, 0, (0,), (1,), (1,), (0,))),
            ((2, 2), (2, 1, (1,), (2,), (1,), (1,))),
            ((2, 2), (3, 2, (2,), (0,), (1,), (1,))),
            ((2, 0), (0, 2, (0,), (0,), (1,), (0,))),
            ((2, 0), "full"),
        )
        self.assertIs(shows_verdict(bridge, ("broken", run)), True)
        self.assertIs(shows_verdict(bridge, ("broken", run[:-1] + (((2, 2), "full"),))), True)
        for last in (((2, 0), "empty"), ((1, 0), "full"), ((0, 2), "full"), ((2, 0), "Full"), ((2, 0), ("full",))):
            self.assertIs(shows_verdict(bridge, ("broken", run[:-1] + (last,))), False)

    def test_changed_runs(self):
        first = first_state(self.bridge)
        right = ("broken", self.run)
        self.assertIs(shows_verdict(self.bridge, right), True)
        wrong = [self.run[:at] + self.run[at + 1:] for at in range(5)] + [self.run[:at] for at in range(5)]
        wrong += [self.run[:at] + (self.run[at],) + self.run[at:] for at in range(5)]
        wrong += [self.run + (((0, 1), first),), self.run + self.run, self.run[:-1] + (((0, 2), "full"),)]
        wrong += [self.run[:-1] + (((0, 2), ""),), self.run[:-1] + (((0, 1), "empty"),)]
        wrong += [self.run[:-1] + (((0, 2), first),), (((0, 2), "empty"),), (((2, 2), "full"),), ((), "empty"), ()]
        for run in wrong:
            self.assertIs(shows_verdict(self.bridge, ("broken", run)), False, run)

    def test_wrong_kinds(self):
        beat, state = self.run[1]
        self.assertEqual((beat, state), ((1, 2), (1, 1, (1,), (0,), (0,), (1,))))
        pairs = [[beat, state], (list(beat), state), ((True, 2), state), (beat, list(state)), (beat,),
                 (beat, state, state), (state, beat), (beat, (True, 1, (1,), (0,), (0,), (1,))), beat, None, "ab",
                 (beat, (1, 1, (1,), (False,), (0,), (1,))), (beat, (1, 1, [1], (0,), (0,), (1,))), (beat, "full"),
                 (beat, (1, 1, (1,), (0,), (0,), (True,))), ((0, 0), state), ((1, 3), state), (beat, None),
                 (beat, (1, 1, (1,), (0,), (0,), ())), (beat, PLAIN), (PLAIN, state)]
        for pair in pairs:
            run = self.run[:1] + (pair,) + self.run[2:]
            self.assertIs(shows_verdict(self.bridge, ("broken", run)), False, pair)
        for last in [[(0, 2), "empty"], ([0, 2], "empty"), ((False, 2), "empty"), ((0, 2), ("empty",)),
                     ((0, 2), ["empty"]), ((0, 2), None), ((0, 2), True), ((0, 2),), ((0, 2), "empty", "empty")]:
            self.assertIs(shows_verdict(self.bridge, ("broken", self.run[:-1] + (last,))), False, last)
        for thing in [["broken", self.run], ("broken", list(self.run)), ("safe", self.run), ("broken",), (None, self.run),
                      ("broken", self.run, ()), self.run, "broken", ("broken", None), ("broken", self.run[0])]:
            self.assertIs(shows_verdict(self.bridge, thing), False)

    def test_all_verdicts_show_themselves(self):
        for bridge in some_bridges(80, 6, 8):
            try:
                told = verdict(bridge)
            except TooMany:
                continue
            self.assertIs(shows_verdict(bridge, told), True)
            self.assertIs(shows_verdict(bridge, ("broken" if told[0] == "safe" else "safe", told[1])), False)


class SameAnswersTest(unittest.TestCase):
    def test_asked_again(self):
        before = {name: repr(thing) for name, thing in vars(module).items() if not name.startswith("__")}
        for bridge in (Bridge(PLAIN, 2, 1, 1), Bridge(PLAIN, 2, 1, 1, 2), Bridge(TWO, 1, 3, 3, 3)):
            told = verdict(bridge)
            self.assertTrue(same(told, verdict(bridge)))
            self.assertTrue(same(told, verdict(Bridge(bridge.code, bridge.depth, bridge.ahead, bridge.behind, bridge.slow))))
            self.assertIs(shows_verdict(bridge, told), shows_verdict(bridge, told))
        after = {name: repr(thing) for name, thing in vars(module).items() if not name.startswith("__")}
        self.assertEqual(before, after)
