import unittest

from halfread import making
from halfread.codes import Code, flipped, renamed, turned
from halfread.errors import NoNumber, NoSpan
from halfread.making import evenly, longest, noticing, single
from halfread.readings import is_single, off

from support import all_places, all_rings, changing, greatest_off, no_integers_from, same, word_of

VALUES = range(2, 17)
BITS = range(1, 5)
RINGS = {bits: all_rings(bits) for bits in BITS}


def is_clear(ring):
    """Whether a single code is off by 0 with span 2, as the document tells it by the words beside each two steps."""
    if len(ring) == 2:
        return True
    ring = ring + ring[:2]
    return not any(
        tuple(a ^ b ^ c for a, b, c in zip(*ring[at:at + 3])) in ring for at in range(len(ring) - 2)
    )


CLEAR = {bits: {values: [ring for ring in RINGS[bits][values] if is_clear(ring)] for values in VALUES} for bits in BITS}


def numbers(code):
    return [int("".join(map(str, word)), 2) for word in code.words]


class InterfaceTest(unittest.TestCase):
    def test_all_is_defined_in_this_file(self):
        for thing in (single, evenly, noticing, longest):
            self.assertEqual(thing.__module__, "halfread.making")

    def test_names_of_arguments(self):
        self.assertEqual(single(bits=3, values=6), single(6, 3))
        self.assertEqual(evenly(bits=3, values=6), evenly(6, 3))
        self.assertEqual(noticing(span=2, bits=3, values=6), noticing(6, 3, 2))
        self.assertEqual(longest(span=2, bits=3), longest(3, 2))


class MadeTest(unittest.TestCase):
    def check(self, code, rings):
        """The code has the smallest of the rings as its words; it is None if there are none."""
        if not rings:
            self.assertIsNone(code)
        else:
            self.assertIsInstance(code, Code)
            self.assertTrue(same(code.words, min(rings)))

    def test_single_of_every_size(self):
        for bits in BITS:
            for values in VALUES:
                self.check(single(values, bits), RINGS[bits][values])

    def test_single_is_none_exactly_if_there_is_none(self):
        for bits in BITS:
            for values in VALUES:
                code = single(values, bits)
                self.assertIs(code is None, values % 2 == 1 or values > 2 ** bits)
                if code is not None:
                    self.assertTrue(is_single(code))
                    self.assertEqual((len(code), code.bits), (values, bits))

    def test_evenly_of_every_size(self):
        for bits in BITS:
            for values in VALUES:
                rings = RINGS[bits][values]
                least = min([max(changing(ring)) for ring in rings], default=0)
                self.check(evenly(values, bits), [ring for ring in rings if max(changing(ring)) == least])

    def test_noticing_of_every_size(self):
        for bits in BITS:
            for values in VALUES:
                self.check(noticing(values, bits, 0), RINGS[bits][values])
                self.check(noticing(values, bits, 1), RINGS[bits][values])
                self.check(noticing(values, bits, 2), CLEAR[bits][values])

    def test_longest_of_every_size(self):
        for bits in BITS:
            for span in (0, 1, 2):
                rings = CLEAR[bits] if span == 2 else RINGS[bits]
                self.assertTrue(same(longest(bits, span), max(values for values in VALUES if rings[values])))

    def test_known_codes(self):
        self.assertEqual(single(2, 1).words, ((0,), (1,)))
        self.assertEqual(single(4, 2).words, ((0, 0), (0, 1), (1, 1), (1, 0)))
        self.assertEqual(numbers(single(16, 4)), [0, 1, 3, 2, 6, 4, 5, 7, 15, 11, 9, 13, 12, 14, 10, 8])
        self.assertEqual(numbers(single(8, 3)), [0, 1, 3, 2, 6, 7, 5, 4])
        self.assertEqual(numbers(evenly(6, 3)), [0, 1, 3, 2, 6, 4])
        self.assertEqual(changing(evenly(16, 4).words), [4, 4, 4, 4])
        self.assertEqual(numbers(noticing(6, 3, 2)), [0, 1, 3, 7, 6, 4])
        self.assertEqual(numbers(noticing(12, 4, 2)), [0, 1, 3, 7, 6, 4, 12, 13, 15, 11, 10, 8])
        self.assertEqual(noticing(2, 1, 2).words, ((0,), (1,)))
        self.assertIsNone(noticing(4, 2, 2))
        self.assertIsNone(noticing(10, 4, 2))
        self.assertIsNone(noticing(8, 3, 2))
        self.assertEqual([longest(bits, 2) for bits in BITS], [2, 2, 6, 12])
        self.assertEqual([longest(bits, 1) for bits in BITS], [2, 4, 8, 16])
        self.assertEqual([longest(bits, 0) for bits in BITS], [2, 4, 8, 16])

    def test_smallest_of_all_codes_that_are_alike(self):
        # The rings that are compared above begin with zeros: no other code is smaller.
        for code in (single(8, 3), evenly(6, 3), noticing(6, 3, 2)):
            for by in range(len(code)):
                for places in all_places(3):
                    other = renamed(flipped(turned(code, by), places), (2, 0, 1))
                    self.assertLessEqual(code.words, other.words)
                    self.assertLessEqual(code.words, (-other).words)

    def test_the_words_beside_two_steps_tell_what_is_off(self):
        for bits in BITS:
            for values in VALUES:
                for ring in RINGS[bits][values][::1 if bits < 4 else 40]:
                    self.assertIs(ring in CLEAR[bits][values], greatest_off(ring, 2) == 0)

    def test_noticing_is_off_by_nothing(self):
        for bits in BITS:
            for values in VALUES:
                for span in (0, 1, 2):
                    code = noticing(values, bits, span)
                    if code is not None:
                        self.assertEqual(off(code, span), 0)

    def test_evenly_differs_from_single(self):
        self.assertNotEqual(evenly(16, 4), single(16, 4))
        self.assertLess(single(16, 4).words, evenly(16, 4).words)
        self.assertEqual(word_of(0, 4), evenly(16, 4)(0))


class RefusalsTest(unittest.TestCase):
    def test_no_number_of_values(self):
        for values in no_integers_from(2, 16) + [0, 1]:
            for bits in (2, None, 5):
                for ask in (lambda: single(values, bits), lambda: evenly(values, bits),
                            lambda: noticing(values, bits, 1), lambda: noticing(values, bits, 3)):
                    with self.assertRaises(NoNumber):
                        ask()

    def test_no_number_of_bits(self):
        for bits in no_integers_from(1, 4) + [0, 5]:
            for values in (2, 3, 16):
                for ask in (lambda: single(values, bits), lambda: evenly(values, bits),
                            lambda: noticing(values, bits, 1), lambda: noticing(values, bits, None),
                            lambda: longest(bits, 1), lambda: longest(bits, 3), lambda: longest(bits, True)):
                    with self.assertRaises(NoNumber):
                        ask()

    def test_no_span(self):
        for span in no_integers_from(0, 2) + [3, 4]:
            for ask in (lambda: noticing(4, 2, span), lambda: noticing(3, 2, span), lambda: noticing(16, 1, span),
                        lambda: longest(2, span), lambda: longest(1, span)):
                with self.assertRaises(NoSpan):
                    ask()


class SameAnswersTest(unittest.TestCase):
    def test_asked_again(self):
        before = {name: repr(thing) for name, thing in vars(making).items() if not name.startswith("__")}
        for ask in (lambda: single(16, 4), lambda: evenly(16, 4), lambda: evenly(14, 4), lambda: noticing(12, 4, 2),
                    lambda: noticing(16, 4, 2), lambda: longest(4, 2), lambda: longest(4, 0)):
            self.assertEqual(ask(), ask())
        after = {name: repr(thing) for name, thing in vars(making).items() if not name.startswith("__")}
        self.assertEqual(before, after)
