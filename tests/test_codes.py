import itertools
import unittest

from halfread import codes
from halfread.codes import Code, alike, flipped, renamed, turned
from halfread.errors import NoCode, NoOrder, NoPlaces, NoText, NoValue, NoWord, NoWords

from support import (
    GRAY, JOHNSON, NAMED, PLAIN, SIXTEEN, SIXTEEN_GRAY, SIXTEEN_WIDE, THREE, TWO, TWO_WIDE, all_places, back_words,
    first_alike, flipped_words, made_of, no_codes, no_integers, no_integers_from, renamed_words, same, some_codes,
    turned_words, word_of,
)

CODES = NAMED + some_codes(100, 1)


class InterfaceTest(unittest.TestCase):
    def test_all_is_defined_in_this_file(self):
        for thing in (Code, turned, renamed, flipped, alike):
            self.assertEqual(thing.__module__, "halfread.codes")
        self.assertTrue({"text", "read", "words", "bits", "__call__", "__getitem__", "__len__", "__contains__",
                         "__eq__", "__repr__", "__neg__"} <= set(vars(Code)))

    def test_names_of_arguments(self):
        self.assertEqual(PLAIN(value=2), (1, 0))
        self.assertEqual(Code.read(text="0\n1\n"), TWO)
        self.assertEqual(turned(code=PLAIN, by=1), turned(PLAIN, 1))
        self.assertEqual(turned(by=1, code=PLAIN), turned(PLAIN, 1))
        self.assertEqual(renamed(code=PLAIN, order=(1, 0)), renamed(PLAIN, (1, 0)))
        self.assertEqual(flipped(code=PLAIN, places=(1,)), flipped(PLAIN, (1,)))
        self.assertEqual(alike(other=PLAIN, one=GRAY), alike(GRAY, PLAIN))
        self.assertEqual(alike(one=THREE, other=turned(THREE, 1)), alike(THREE, turned(THREE, 1)))


class WordsTest(unittest.TestCase):
    def refused(self, *words):
        before = repr(words)
        with self.assertRaises(NoWords):
            Code(*words)
        self.assertEqual(repr(words), before)

    def test_properties(self):
        self.assertTrue(same(PLAIN.words, ((0, 0), (0, 1), (1, 0), (1, 1))))
        self.assertTrue(same(PLAIN.bits, 2))
        self.assertTrue(same(TWO.words, ((0,), (1,))))
        self.assertTrue(same(TWO.bits, 1))
        self.assertEqual((TWO_WIDE.bits, SIXTEEN.bits, SIXTEEN_WIDE.bits), (5, 4, 5))
        self.assertEqual(SIXTEEN_WIDE.words[15], word_of((15 * 11 + 5) % 32, 5))

    def test_properties_do_not_change(self):
        code = Code((0, 0), (0, 1), (1, 1))
        for name in ("words", "bits"):
            with self.assertRaises(AttributeError):
                setattr(code, name, 1)
        self.assertEqual(code.words, ((0, 0), (0, 1), (1, 1)))
        for step in (lambda: -code, lambda: turned(code, 1), lambda: renamed(code, (1, 0)),
                     lambda: flipped(code, (0,)), code.text, lambda: alike(code, code)):
            step()
            self.assertEqual(code.words, ((0, 0), (0, 1), (1, 1)))

    def test_every_number_of_words_and_bits(self):
        for bits in range(0, 8):
            for values in range(0, min(2 ** bits, 18) + 1):
                words = [word_of(number, bits) for number in range(values)]
                with self.subTest(bits=bits, values=values):
                    if 1 <= bits <= 5 and 2 <= values <= 16:
                        self.assertEqual(Code(*words).words, tuple(words))
                        self.assertEqual(len(Code(*words)), values)
                        self.assertEqual(Code(*words).bits, bits)
                    else:
                        self.refused(*words)

    def test_words_must_be_different(self):
        self.refused((0, 0), (0, 0))
        self.refused((0, 0), (0, 1), (1, 1), (0, 0))
        self.refused((0, 0), (0, 1), (0, 1))

    def test_words_must_have_the_same_length(self):
        self.refused((0, 0), (1,))
        self.refused((0,), (1, 1))
        self.refused((0, 0), (0, 1), (1, 1, 1))
        self.refused((0, 0), ())
        self.refused((), (0, 0))

    def test_words_must_be_tuples_of_bits(self):
        for bit in no_integers_from(0, 1):
            self.refused((0, 0), (1, bit))
            self.refused((bit, 0), (1, 1))
            self.refused((bit,), (1,))
            self.refused((1,), (bit,))
        for word in no_integers() + [0, 1, 2]:
            if word not in ((0,), (0, 1)):
                for other in ((1,), (0, 1), word):
                    self.refused(other, word)
                    self.refused(word, other)
        self.refused([0, 0], [0, 1])
        self.refused("00", "01")
        self.refused(((0, 0), (0, 1)))
        self.refused([(0, 0), (0, 1)])
        self.refused(PLAIN, GRAY)


class OperatorsTest(unittest.TestCase):
    def test_value_to_word_and_back(self):
        for code in CODES:
            for value, word in enumerate(code.words):
                self.assertTrue(same(code(value), word))
                self.assertTrue(same(code[word], value))

    def test_no_value(self):
        for code in (PLAIN, TWO, THREE, SIXTEEN, TWO_WIDE):
            for value in no_integers_from(0, len(code) - 1) + [len(code), -len(code)]:
                with self.assertRaises(NoValue):
                    code(value)

    def test_a_word_that_is_none_of_the_code(self):
        self.assertTrue(same(THREE[1, 1], -1))
        self.assertTrue(same(TWO_WIDE[(0, 0, 0, 0, 0)], -1))
        for code in CODES:
            for word in itertools.product((0, 1), repeat=code.bits):
                self.assertTrue(same(code[word], code.words.index(word) if word in code.words else -1))

    def test_no_word(self):
        for word in no_integers() + [0, 1, 3, -1, (0, 0, 0), (0, 2), (2, 0), (0, -1), (1, True), (False, 0), [0, 0],
                                     (0, "0"), ((0,), 0), slice(0, 1), slice(None), PLAIN.words]:
            if not same(word, (0, 1)):
                with self.assertRaises(NoWord):
                    PLAIN[word]
        for word in ((True,), (False,), (2,), (-1,), (), (0, 0), [0], 0, 1):
            with self.assertRaises(NoWord):
                TWO[word]
        for word in ((0, 0, 0, 0), (0,) * 6, (0, 0, 0, 0, True)):
            with self.assertRaises(NoWord):
                TWO_WIDE[word]

    def test_len(self):
        self.assertEqual([len(code) for code in (TWO, THREE, PLAIN, JOHNSON, SIXTEEN)], [2, 3, 4, 6, 16])

    def test_in(self):
        for code in CODES:
            for word in itertools.product((0, 1), repeat=code.bits):
                self.assertIs(word in code, word in code.words)
            for word in code.words:
                self.assertNotIn(list(word), code)
                self.assertNotIn(word + (0,), code)
                self.assertNotIn(word[1:], code)
                self.assertNotIn(tuple(bool(bit) for bit in word), code)
                self.assertNotIn(word[:-1] + (bool(word[-1]),), code)
                self.assertNotIn((word,), code)
        for thing in no_integers() + [0, 1, (0, 2), ([0], 1), (0, "1"), (True, 1), (0, None), (PLAIN, PLAIN)]:
            if not same(thing, (0, 1)):
                self.assertIs(thing in PLAIN, False)
                self.assertIs(thing not in PLAIN, True)

    def test_equal(self):
        again = Code((0, 0), (0, 1), (1, 0), (1, 1))
        self.assertIs(PLAIN == again, True)
        self.assertIs(PLAIN != again, False)
        others = [GRAY, THREE, SIXTEEN, Code((0, 0), (0, 1), (1, 0)), turned(PLAIN, 1), -PLAIN, *no_codes(),
                  list(PLAIN.words), PLAIN.text(), repr(PLAIN)]
        for other in others:
            self.assertIs(PLAIN == other, False)
            self.assertIs(other == PLAIN, False)
            self.assertIs(PLAIN != other, True)
            self.assertIs(other != PLAIN, True)
        for one, other in itertools.product(CODES, repeat=2):
            self.assertIs(one == other, one.words == other.words)
            self.assertIs(one != other, one.words != other.words)

    def test_repr(self):
        self.assertEqual(repr(PLAIN), "Code(4 values, 2 bits)")
        self.assertEqual(repr(TWO), "Code(2 values, 1 bits)")
        self.assertEqual(repr(SIXTEEN_WIDE), "Code(16 values, 5 bits)")
        self.assertEqual(repr(TWO_WIDE), "Code(2 values, 5 bits)")

    def test_not_walked_over(self):
        for code in (PLAIN, TWO, SIXTEEN):
            for walk in (list, tuple, iter, sorted, set, lambda c: [*c], lambda c: [x for x in c], lambda c: Code(*c)):
                with self.assertRaises(TypeError):
                    walk(code)


class ChangedTest(unittest.TestCase):
    def test_turned(self):
        self.assertEqual(turned(PLAIN, 1).words, ((0, 1), (1, 0), (1, 1), (0, 0)))
        self.assertEqual(turned(PLAIN, 3).words, ((1, 1), (0, 0), (0, 1), (1, 0)))
        for code in CODES:
            for by in range(len(code)):
                new = turned(code, by)
                self.assertIsInstance(new, Code)
                self.assertEqual(new.words, turned_words(code.words, by))
                self.assertEqual(new(0), code(by))

    def test_turned_refuses(self):
        for code in no_codes():
            for by in (0, 9, None, True):
                with self.assertRaises(NoCode):
                    turned(code, by)
        for code in (PLAIN, TWO, SIXTEEN):
            for by in no_integers_from(0, len(code) - 1):
                with self.assertRaises(NoValue):
                    turned(code, by)

    def test_minus(self):
        self.assertEqual((-PLAIN).words, ((0, 0), (1, 1), (1, 0), (0, 1)))
        self.assertEqual((-THREE).words, ((1, 0), (0, 1), (0, 0)))
        self.assertEqual(-TWO, TWO)
        for code in CODES:
            self.assertIsInstance(-code, Code)
            self.assertEqual((-code).words, back_words(code.words))
            self.assertEqual(-(-code), code)

    def test_renamed(self):
        code = Code((0, 0, 1), (0, 1, 1), (1, 1, 0))
        self.assertEqual(renamed(code, (1, 2, 0)).words, ((1, 0, 0), (1, 0, 1), (0, 1, 1)))
        self.assertEqual(renamed(TWO, (0,)), TWO)
        for code in NAMED:
            for order in itertools.permutations(range(code.bits)):
                new = renamed(code, order)
                self.assertIsInstance(new, Code)
                self.assertEqual(new.words, renamed_words(code.words, order))
                for old_word, word in zip(code.words, new.words):
                    self.assertEqual([word[order[k]] for k in range(code.bits)], list(old_word))

    def test_renamed_refuses(self):
        for code in no_codes():
            for order in ((0, 1), None, [0, 1]):
                with self.assertRaises(NoCode):
                    renamed(code, order)
        wrong = [(0, 0), (1, 1), (0,), (1,), (), (0, 1, 2), (1, 2), (0, 2), (-1, 0), (0, -1), [0, 1], [1, 0],
                 (0, True), (False, 1), (True, False), ("0", "1"), (None, 0), ((0,), 1), "01", (0, 1, 0), (0, 1, 1),
                 0, 1, (0, PLAIN), ([], 1), ({}, 1)]
        for order in wrong + [thing for thing in no_integers() if not same(thing, (0, 1))]:
            with self.assertRaises(NoOrder):
                renamed(PLAIN, order)
        for order in ((False,), (1,), (), (0, 1), [0], 0):
            with self.assertRaises(NoOrder):
                renamed(TWO, order)
        for order in ((0, 1, 2, 3), (0, 1, 2, 3, 5), (1, 2, 3, 4, 5), (4, 3, 2, 1, 1)):
            with self.assertRaises(NoOrder):
                renamed(TWO_WIDE, order)

    def test_flipped(self):
        self.assertEqual(flipped(PLAIN, (0,)).words, ((1, 0), (1, 1), (0, 0), (0, 1)))
        self.assertEqual(flipped(PLAIN, (0, 1)).words, ((1, 1), (1, 0), (0, 1), (0, 0)))
        self.assertEqual(flipped(PLAIN, ()), PLAIN)
        for code in NAMED:
            for places in all_places(code.bits):
                new = flipped(code, places)
                self.assertIsInstance(new, Code)
                self.assertEqual(new.words, flipped_words(code.words, places))
                self.assertEqual(flipped(new, places), code)

    def test_flipped_refuses(self):
        for code in no_codes():
            for places in ((), None, [0]):
                with self.assertRaises(NoCode):
                    flipped(code, places)
        wrong = [(1, 0), (0, 0), (1, 1), (2,), (-1,), (0, 2), (-1, 0), (0, 1, 2), (0, 1, 1), [], [0], [0, 1], (True,),
                 (False,), (False, 1), (0, True), None, "", "0", 0, 1, {}, {0: 1}, ("0",), (None,), ((0,),), ([],),
                 (0, None), (0, "1"), PLAIN, True]
        for places in wrong:
            with self.assertRaises(NoPlaces):
                flipped(PLAIN, places)
        for places in ((4, 3), (0, 2, 1), (5,), (0, 1, 2, 3, 5), (0, 1, 3, 2, 4), (0, 0, 1, 2, 3)):
            with self.assertRaises(NoPlaces):
                flipped(TWO_WIDE, places)


class AlikeTest(unittest.TestCase):
    def check(self, one, other):
        how = alike(one, other)
        self.assertTrue(same(how, first_alike(one.words, other.words)))
        return how

    def test_examples(self):
        self.assertEqual(alike(PLAIN, PLAIN), (0, 1, (0, 1), ()))
        self.assertEqual(alike(TWO, TWO), (0, -1, (0,), ()))
        self.assertIsNone(alike(PLAIN, GRAY))
        self.assertEqual(alike(TWO, Code((1,), (0,))), (0, -1, (0,), (0,)))

    def test_unlike_sizes(self):
        for one, other in itertools.permutations(NAMED, 2):
            if len(one) != len(other) or one.bits != other.bits:
                self.assertIsNone(alike(one, other))
        self.assertIsNone(alike(Code((0, 0), (0, 1)), TWO))
        self.assertIsNone(alike(TWO, Code((0, 0), (0, 1))))

    def test_smallest_of_small_codes(self):
        small = [Code(*[word_of(number, bits) for number in numbers])
                 for bits in (1, 2) for values in (2, 3, 4)
                 for numbers in itertools.permutations(range(2 ** bits), values)]
        for one in small:
            for other in small:
                self.check(one, other)

    def test_smallest_of_larger_codes(self):
        pairs = [(JOHNSON, renamed(flipped(turned(-JOHNSON, 4), (0, 2)), (2, 0, 1))),
                 (SIXTEEN_GRAY, flipped(turned(SIXTEEN_GRAY, 9), (1, 3))),
                 (JOHNSON, -JOHNSON),
                 (THREE, turned(THREE, 2)),
                 (Code((0, 0, 0), (0, 1, 1), (0, 1, 0)), Code((1, 1, 1), (1, 0, 1), (1, 0, 0)))]
        for one, other in pairs:
            self.assertIsNotNone(self.check(one, other))
        for code in some_codes(40, 3):
            if code.bits <= 3:
                others = [turned(code, len(code) - 1), -code, flipped(code, (code.bits - 1,)),
                          renamed(code, tuple(reversed(range(code.bits)))), Code(*sorted(code.words))]
                for other in others:
                    self.check(code, other)

    def test_all_words_of_the_largest_codes(self):
        for at, code in enumerate([SIXTEEN, SIXTEEN_GRAY, SIXTEEN_WIDE, *[c for c in some_codes(80, 5) if c.bits > 3]]):
            bits = code.bits
            order = tuple((place + at) % bits for place in range(bits))
            places = tuple(place for place in range(bits) if (at >> place) % 2)
            how = (at % len(code), (-1, 1)[at % 2], order, places)
            other = Code(*made_of(code.words, how))
            found = alike(code, other)
            self.assertEqual(made_of(code.words, found), other.words)
            self.assertLessEqual(found, how)
            self.assertEqual([len(found), len(found[2])], [4, bits])
            self.assertEqual(alike(code, other), found)

    def test_columns_that_are_the_same_or_opposite(self):
        # Places that never change, or change together, may stand for each other: the smallest order is asked for.
        one = Code((0, 0, 1, 0, 1), (0, 1, 0, 0, 1))
        other = Code((1, 0, 0, 0, 1), (0, 0, 1, 0, 1))
        self.assertEqual(self.check(one, other), (0, -1, (1, 0, 2, 3, 4), (1, 2)))
        self.assertEqual(self.check(one, one), (0, -1, (0, 1, 2, 3, 4), ()))
        self.assertIsNone(self.check(TWO_WIDE, other))
        self.assertIsNotNone(self.check(TWO_WIDE, TWO_WIDE))
        self.assertIsNone(self.check(Code((0, 0, 0), (1, 1, 0)), Code((0, 1, 1), (0, 0, 1))))
        self.assertIsNotNone(self.check(Code((0, 0, 0), (1, 1, 0)), Code((0, 1, 1), (0, 0, 0))))

    def test_found_by_the_functions_of_the_module(self):
        for code in NAMED:
            other = turned(-renamed(flipped(code, (0,)), tuple(reversed(range(code.bits)))), 1)
            begin, way, order, places = alike(code, other)
            new = renamed(flipped(code, places), order)
            self.assertEqual(turned(-new if way == -1 else new, begin), other)

    def test_refuses(self):
        for thing in no_codes():
            for one, other in ((thing, PLAIN), (PLAIN, thing), (thing, thing)):
                with self.assertRaises(NoCode):
                    alike(one, other)


class TextTest(unittest.TestCase):
    def test_text(self):
        self.assertEqual(PLAIN.text(), "00\n01\n10\n11\n")
        self.assertEqual(TWO.text(), "0\n1\n")
        self.assertEqual(TWO_WIDE.text(), "01011\n10010\n")

    def test_read_back(self):
        for code in CODES:
            text = code.text()
            self.assertEqual(len(text), len(code) * (code.bits + 1))
            again = Code.read(text)
            self.assertIsInstance(again, Code)
            self.assertTrue(same(again.words, code.words))
            self.assertEqual(again.text(), text)

    def test_refuses(self):
        wrong = ["", "\n", "\n\n", "0", "0\n", "0\n1", "00\n01\n10\n11", "0\n1\n\n", "\n0\n1\n", "0\n\n1\n", "0\n0\n",
                 "00\n01\n00\n", "0\n11\n", "00\n1\n", "0\n2\n", "0 \n1\n", " 0\n1\n", "0,1\n", "0\n1\n ", "0\n-1\n",
                 "a\nb\n", "000000\n000001\n", "0\n1\n2\n", "01\n1 \n", "+0\n+1\n", "0\n1\n0\n", "(0,)\n(1,)\n",
                 "0\n11", "00\n011", "0\n1 ", "00\n01",
                 "0" * 1000, "0\n" * 500, "\n" * 1000, SIXTEEN_WIDE.text() + "11111\n" + "11110\n"]
        for text in wrong + no_integers() + [0, 1, 2, PLAIN.words, ["0\n", "1\n"], ("0\n1\n",), [PLAIN.text()]]:
            with self.assertRaises(NoText):
                Code.read(text)

    def test_seventeen_words_are_too_many(self):
        lines = [format(number, "05b") + "\n" for number in range(17)]
        self.assertEqual(len(Code.read("".join(lines[:16]))), 16)
        with self.assertRaises(NoText):
            Code.read("".join(lines))


class SameAnswersTest(unittest.TestCase):
    def test_asked_again(self):
        for code in NAMED:
            places = (0,)
            order = tuple(reversed(range(code.bits)))
            for ask in (lambda: turned(code, 1), lambda: -code, lambda: renamed(code, order),
                        lambda: flipped(code, places), lambda: alike(code, -code), code.text, lambda: code(1),
                        lambda: code[code.words[1]], lambda: code.words, lambda: code.bits, lambda: repr(code)):
                self.assertEqual(ask(), ask())

    def test_module_has_no_state_that_functions_change(self):
        before = {name: repr(thing) for name, thing in vars(codes).items() if not name.startswith("__")}
        for code in NAMED:
            alike(code, turned(code, 1))
        after = {name: repr(thing) for name, thing in vars(codes).items() if not name.startswith("__")}
        self.assertEqual(before, after)
