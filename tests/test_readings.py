import itertools
import unittest

from halfread import readings as module
from halfread.codes import Code, alike, flipped, renamed, turned
from halfread.errors import NoCode, NoSpan, NoValue
from halfread.readings import changes, far_off, holes, is_single, mixes, off, readings, shows_off, tolerance

from support import (
    GRAY, JOHNSON, NAMED, PLAIN, SIXTEEN, SIXTEEN_GRAY, SIXTEEN_WIDE, THREE, TWO, TWO_WIDE, calls_of, greatest_off,
    holes_of, no_codes, no_integers, no_integers_from, off_readings, readings_of, same, some_codes, word_of,
)

CODES = NAMED + some_codes(60, 2)
SPANS = range(5)

# The words that end with 0, by turns from the lower and from the upper end: most of them are read in most windows.
LONG = Code(*[(*word_of(number, 4), 0) for low in range(8) for number in (low, 15 - low)])


class InterfaceTest(unittest.TestCase):
    def test_all_is_defined_in_this_file(self):
        for thing in (mixes, changes, is_single, readings, off, far_off, shows_off, tolerance, holes):
            self.assertEqual(thing.__module__, "halfread.readings")

    def test_names_of_arguments(self):
        self.assertEqual(mixes(value=1, code=PLAIN), mixes(PLAIN, 1))
        self.assertEqual(changes(value=2, code=PLAIN), changes(PLAIN, 2))
        self.assertEqual(is_single(code=GRAY), True)
        self.assertEqual(readings(span=1, value=0, code=PLAIN), readings(PLAIN, 0, 1))
        self.assertEqual(off(span=1, code=PLAIN), off(PLAIN, 1))
        self.assertEqual(far_off(span=1, code=PLAIN), far_off(PLAIN, 1))
        self.assertEqual(shows_off(thing=(1, (0, 0)), span=1, code=PLAIN), True)
        self.assertEqual(tolerance(code=PLAIN), 0)
        self.assertEqual(holes(span=1, code=THREE), holes(THREE, 1))


class StepTest(unittest.TestCase):
    def test_mixes(self):
        self.assertTrue(same(mixes(PLAIN, 1), ((0, 0), (0, 1), (1, 0), (1, 1))))
        self.assertTrue(same(mixes(PLAIN, 0), ((0, 0), (0, 1))))
        self.assertTrue(same(mixes(PLAIN, 3), ((0, 0), (0, 1), (1, 0), (1, 1))))
        self.assertTrue(same(mixes(GRAY, 2), ((1, 0), (1, 1))))
        self.assertTrue(same(mixes(TWO, 1), ((0,), (1,))))
        for code in CODES:
            for value in range(len(code)):
                self.assertTrue(same(mixes(code, value), readings_of(code.words, value, 1)))

    def test_mixes_of_all_bits(self):
        code = Code((1, 1, 1, 1, 1), (0, 0, 0, 0, 0))
        self.assertEqual(mixes(code, 0), tuple(word_of(number, 5) for number in range(32)))
        self.assertEqual(mixes(code, 1), mixes(code, 0))

    def test_changes(self):
        self.assertTrue(same([changes(PLAIN, value) for value in range(4)], [(1,), (0, 1), (1,), (0, 1)]))
        self.assertTrue(same([changes(GRAY, value) for value in range(4)], [(1,), (0,), (1,), (0,)]))
        self.assertTrue(same(changes(TWO_WIDE, 1), (0, 1, 4)))
        self.assertTrue(same(changes(THREE, 2), (0, 1)))
        for code in CODES:
            for value in range(len(code)):
                new = code.words[value + 1] if value + 1 < len(code) else code.words[0]
                places = [place for place in range(code.bits) if code.words[value][place] != new[place]]
                self.assertTrue(same(changes(code, value), tuple(places)))

    def test_is_single(self):
        for code in (GRAY, TWO, JOHNSON, SIXTEEN_GRAY):
            self.assertIs(is_single(code), True)
        for code in (PLAIN, THREE, TWO_WIDE, SIXTEEN, SIXTEEN_WIDE):
            self.assertIs(is_single(code), False)
        # Each way there is one step that changes two bits, at the end, the beginning or within.
        chain = Code((0, 0, 0), (0, 0, 1), (0, 1, 1))
        for by in range(3):
            self.assertIs(is_single(turned(chain, by)), False)
        for code in CODES:
            self.assertIs(is_single(code), all(len(changes(code, value)) == 1 for value in range(len(code))))


class WindowTest(unittest.TestCase):
    def test_examples(self):
        self.assertTrue(same(readings(PLAIN, 2, 0), ((1, 0),)))
        self.assertTrue(same(readings(PLAIN, 2, 1), ((1, 0), (1, 1))))
        self.assertTrue(same(readings(GRAY, 0, 2), ((0, 0), (0, 1), (1, 0), (1, 1))))
        self.assertTrue(same(readings(JOHNSON, 5, 2), ((0, 0, 0), (0, 0, 1), (1, 0, 0), (1, 0, 1))))
        self.assertTrue(same(readings(TWO, 1, 4), ((0,), (1,))))
        self.assertTrue(same(readings(TWO_WIDE, 1, 0), ((1, 0, 0, 1, 0),)))

    def test_against_the_words_of_the_document(self):
        for code in CODES:
            for value in range(len(code)):
                for span in SPANS:
                    self.assertTrue(same(readings(code, value, span), readings_of(code.words, value, span)))
                self.assertEqual(readings(code, value, 1), mixes(code, value))

    def test_ascending(self):
        for span in SPANS:
            words = readings(SIXTEEN_WIDE, 7, span)
            self.assertEqual(list(words), sorted(set(words)))


class OffTest(unittest.TestCase):
    def test_examples(self):
        self.assertTrue(same((off(PLAIN, 1), off(GRAY, 1)), (1, 0)))
        self.assertTrue(same(far_off(PLAIN, 1), (1, (0, 0))))
        self.assertIsNone(far_off(GRAY, 1))
        self.assertTrue(same(off(SIXTEEN, 1), max(by for by, _, _ in off_readings(SIXTEEN.words, 1))))
        self.assertEqual(off(SIXTEEN, 1), 7)
        self.assertEqual(far_off(SIXTEEN, 1), (7, (0, 0, 0, 0)))
        self.assertTrue(same((holes(THREE, 0), holes(THREE, 1)), (0, 1)))
        self.assertEqual([tolerance(code) for code in (PLAIN, GRAY, JOHNSON, TWO)], [0, 1, 2, 4])

    def test_off_against_the_words_of_the_document(self):
        for code in CODES:
            for span in SPANS:
                rows = off_readings(code.words, span)
                most = greatest_off(code.words, span)
                self.assertTrue(same(off(code, span), most))
                first = [(value, word) for by, value, word in rows if by == most][0]
                self.assertTrue(same(far_off(code, span), first if most > 0 else None))
                self.assertTrue(same(holes(code, span), holes_of(code.words, span)))

    def test_tolerance_against_the_words_of_the_document(self):
        found = set()
        for code in CODES + some_codes(200, 4):
            spans = [span for span in SPANS if all(greatest_off(code.words, less) == 0 for less in range(span + 1))]
            self.assertTrue(same(tolerance(code), max(spans)))
            found.add(tolerance(code))
        self.assertTrue({0, 1, 4} <= found)

    def test_tolerance_ends_at_the_first_span_that_is_off(self):
        # Off by 1 with span 1; with span 4 each window has all values, and nothing is off.
        self.assertEqual((off(PLAIN, 1), off(PLAIN, 4), tolerance(PLAIN)), (1, 0, 0))
        self.assertEqual((off(GRAY, 2), off(GRAY, 3), off(GRAY, 4), tolerance(GRAY)), (1, 0, 0, 1))

    def test_tolerance_of_every_number(self):
        five_bits = Code(*[word_of(number, 5) for number in (0, 1, 3, 7, 15, 31, 30, 28, 24, 16)])
        self.assertEqual([off(five_bits, span) for span in SPANS], [0, 0, 0, 0, 0])
        four_bits = Code(*[word_of(number, 4) for number in (0, 1, 3, 7, 15, 14, 12, 8)])
        self.assertEqual([off(four_bits, span) for span in SPANS], [0, 0, 0, 0, 2])
        self.assertEqual((tolerance(five_bits), tolerance(four_bits), tolerance(JOHNSON)), (4, 3, 2))
        self.assertEqual((off(JOHNSON, 3), tolerance(GRAY), tolerance(THREE)), (1, 1, 0))

    def test_distance_goes_both_ways(self):
        # The reading of value 3 is one step behind the window of 0, not four steps ahead.
        code = Code((0, 0, 0), (0, 1, 1), (1, 1, 1), (0, 1, 0))
        self.assertEqual(off(code, 1), 1)
        self.assertEqual(far_off(code, 1), (0, (0, 1, 0)))

    def test_single_codes_and_codes_that_are_alike(self):
        for code in CODES:
            if is_single(code):
                self.assertEqual((off(code, 0), off(code, 1), holes(code, 0), holes(code, 1)), (0, 0, 0, 0))
            other = turned(-renamed(flipped(code, (0,)), tuple(reversed(range(code.bits)))), len(code) - 1)
            self.assertIsNotNone(alike(code, other))
            for span in SPANS:
                self.assertEqual(off(code, span), off(other, span))
                self.assertEqual(holes(code, span), holes(other, span))


class ShowsOffTest(unittest.TestCase):
    def test_every_pair_of_a_value_and_a_word(self):
        for code in NAMED + some_codes(6, 6):
            for span in SPANS:
                rows = off_readings(code.words, span)
                most = max(by for by, _, _ in rows)
                right = [(value, word) for by, value, word in rows if by == most and most > 0]
                for value in range(len(code)):
                    for number in range(2 ** code.bits):
                        thing = (value, word_of(number, code.bits))
                        self.assertIs(shows_off(code, span, thing), thing in right)
                # Only the values of the code count, not other numbers for the same place of the ring.
                for value, word in right:
                    self.assertIs(shows_off(code, span, (value + len(code), word)), False)
                    self.assertIs(shows_off(code, span, (value - len(code), word)), False)
                self.assertIs(shows_off(code, span, None), most == 0)
                self.assertIs(shows_off(code, span, far_off(code, span)), True)

    def test_the_value_0(self):
        code = turned(PLAIN, 1)
        self.assertIs(shows_off(code, 1, (0, (0, 0))), True)
        for value in (4, -4, False, "0", None):
            self.assertIs(shows_off(code, 1, (value, (0, 0))), False)

    def test_wrong_kinds(self):
        self.assertIs(shows_off(PLAIN, 1, (1, (0, 0))), True)
        self.assertIs(shows_off(PLAIN, 1, (3, (0, 1))), True)
        wrong = [(True, (0, 0)), [1, (0, 0)], (1, [0, 0]), (1, (False, 0)), (1, (0, False)), (1, (0, 0), 0), (1,),
                 ((0, 0), 1), (1, (0, 0, 0)), (1, (0,)), (1, ()), (-3, (0, 0)), (5, (0, 0)), (4, (0, 0)), (-1, (0, 1)),
                 (1, 0), (1, None), (None, (0, 0)), ("1", (0, 0)), (1, "00"), {1: (0, 0)}, ((1, (0, 0)),),
                 (1, (0, 2)), (1, (0, -1)), (PLAIN, (0, 0)), (1, PLAIN), (10 ** 12, (0, 0)), ([1], (0, 0)),
                 (1, ((0,), 0)), (1, (0, "0")), (1, (None, 0)), "ab", [], {}, (), 0, 1, 2]
        for thing in wrong + no_integers() + [(0, (0, 0)), (2, (0, 0)), (1, (1, 0))]:
            before = repr(thing)
            self.assertIs(shows_off(PLAIN, 1, thing), False)
            self.assertEqual(repr(thing), before)

    def test_nothing_is_off(self):
        self.assertIs(shows_off(GRAY, 1, None), True)
        for thing in wrong_for_none():
            self.assertIs(shows_off(GRAY, 1, thing), False)

    def test_refuses(self):
        for code in no_codes():
            with self.assertRaises(NoCode):
                shows_off(code, 9, (1, (0, 0)))
        for span in no_integers_from(0, 4):
            with self.assertRaises(NoSpan):
                shows_off(PLAIN, span, (1, (0, 0)))
            with self.assertRaises(NoSpan):
                shows_off(GRAY, span, None)


def wrong_for_none():
    return [thing for thing in no_integers() if thing is not None] + [0, 1, (0, (0, 0)), (1, (0, 0)), (None,), [None]]


class AskedOftenTest(unittest.TestCase):
    def test_the_words_of_the_long_code(self):
        self.assertEqual(LONG.text().split()[:4] + LONG.text().split()[-2:],
                         ["00000", "11110", "00010", "11100", "01110", "10000"])
        self.assertEqual(len(LONG), 16)

    def test_worked_out_by_hand(self):
        # From value 0 on four bits change at once; all sixteen words can be read, and value 8 lies 7 from the window.
        self.assertEqual([off(LONG, span) for span in (0, 1)], [0, 7])
        self.assertIsNone(far_off(LONG, 0))
        self.assertEqual(far_off(LONG, 1), (0, LONG.words[8]))
        self.assertEqual([holes(LONG, span) for span in SPANS], [0, 0, 0, 0, 0])
        self.assertEqual(tolerance(LONG), 0)

    def test_the_long_code_asked_twice(self):
        for span in SPANS:
            rows = off_readings(LONG.words, span)
            most = max(by for by, _, _ in rows)
            right = [(value, word) for by, value, word in rows if by == most and most > 0]
            words = sorted(LONG.words) + [(0, 0, 0, 0, 1)]
            things = [None, *itertools.product(range(16), words)]
            for _ in range(2):
                self.assertTrue(same(off(LONG, span), most))
                self.assertTrue(same(far_off(LONG, span), right[0] if right else None))
                self.assertTrue(same(holes(LONG, span), holes_of(LONG.words, span)))
                self.assertTrue(same(tolerance(LONG), 0))
                told = [thing for thing in things if shows_off(LONG, span, thing)]
                self.assertEqual(told, right or [None])

    def test_small_codes_word_by_word(self):
        words = [word_of(number, 2) for number in range(4)]
        rings = [ring for many in (2, 3, 4) for ring in itertools.permutations(words, many)]
        for ring in rings:
            code = Code(*ring)
            for span in SPANS:
                rows = off_readings(ring, span)
                most = max(by for by, _, _ in rows)
                right = [(value, word) for by, value, word in rows if by == most and most > 0] or [None]
                things = [None, *itertools.product(range(len(ring)), words)]
                for _ in range(2):
                    self.assertTrue(same((off(code, span), far_off(code, span)), (most, right[0])))
                    self.assertTrue(same(holes(code, span), holes_of(ring, span)))
                    self.assertEqual([thing for thing in things if shows_off(code, span, thing)], right)
            spans = [span for span in SPANS if all(greatest_off(ring, less) == 0 for less in range(span + 1))]
            self.assertTrue(same(tolerance(code), max(spans)))

    def test_the_work_stays_small(self):
        # Calls are counted, since times differ from machine to machine.
        for span in SPANS:
            for ask in (lambda: off(LONG, span), lambda: far_off(LONG, span), lambda: holes(LONG, span)):
                self.assertLess(calls_of(ask), 150)
            self.assertLess(calls_of(lambda: shows_off(LONG, span, (0, LONG.words[0]))), 100)
            self.assertLess(calls_of(lambda: shows_off(LONG, span, (0, LONG.words[8]))), 250)
        self.assertLess(calls_of(lambda: tolerance(SIXTEEN_GRAY)), 600)


class RefusalsTest(unittest.TestCase):
    def test_no_code_is_told_first(self):
        for code in no_codes():
            for value, span in ((0, 1), (None, None), (True, True), (99, 99)):
                for ask in (lambda: mixes(code, value), lambda: changes(code, value), lambda: is_single(code),
                            lambda: readings(code, value, span), lambda: off(code, span), lambda: far_off(code, span),
                            lambda: tolerance(code), lambda: holes(code, span)):
                    with self.assertRaises(NoCode):
                        ask()

    def test_no_value_is_told_ahead_of_no_span(self):
        for code in (PLAIN, TWO, SIXTEEN):
            for value in no_integers_from(0, len(code) - 1) + [len(code)]:
                for ask in (lambda: mixes(code, value), lambda: changes(code, value),
                            lambda: readings(code, value, 1), lambda: readings(code, value, True),
                            lambda: readings(code, value, 5)):
                    with self.assertRaises(NoValue):
                        ask()

    def test_no_span(self):
        for span in no_integers_from(0, 4):
            for ask in (lambda: readings(PLAIN, 1, span), lambda: off(PLAIN, span), lambda: far_off(PLAIN, span),
                        lambda: holes(PLAIN, span), lambda: off(GRAY, span), lambda: far_off(GRAY, span)):
                with self.assertRaises(NoSpan):
                    ask()


class SameAnswersTest(unittest.TestCase):
    def test_asked_again(self):
        before = {name: repr(thing) for name, thing in vars(module).items() if not name.startswith("__")}
        for code in NAMED:
            words = code.words
            for span in SPANS:
                for ask in (lambda: readings(code, 1, span), lambda: off(code, span), lambda: far_off(code, span),
                            lambda: holes(code, span), lambda: mixes(code, 1), lambda: changes(code, 1),
                            lambda: tolerance(code), lambda: is_single(code)):
                    self.assertTrue(same(ask(), ask()))
            self.assertTrue(same(code.words, words))
        after = {name: repr(thing) for name, thing in vars(module).items() if not name.startswith("__")}
        self.assertEqual(before, after)

    def test_the_largest_inputs(self):
        for code in (SIXTEEN_WIDE, Code(*[word_of(number * 31 % 32, 5) for number in range(16)])):
            self.assertEqual(len(readings(code, 15, 4)), len(readings_of(code.words, 15, 4)))
            self.assertEqual(off(code, 4), greatest_off(code.words, 4))
            self.assertEqual(holes(code, 4), holes_of(code.words, 4))
