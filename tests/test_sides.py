import itertools
import random
import unittest

from halfread.bridges import Bridge, both_sides, first_state, number_of, states_of
from halfread.codes import Code
from halfread.courses import Course, turned_course
from halfread.errors import TooMany
from halfread.making import single
from halfread.readings import readings, values_told
from halfread.sides import goes_round, sides_of
from halfread.speeds import slowest, speeds

from plain import BEATS, arrows_of, may_come, numbers_read
from support import (
    GRAY, JOHNSON, NAMED, PLAIN, SIXTEEN, SIXTEEN_GRAY, THREE, TWO, TWO_WIDE, no_integers, same, some_bridges,
    some_codes, some_states,
)


class ToldTest(unittest.TestCase):
    def test_against_readings(self):
        for code in NAMED + some_codes(60, 51):
            told = values_told(code, 3)
            self.assertEqual(len(told), 4)
            for span, rows in enumerate(told):
                for last, values in enumerate(rows):
                    first = (last - span) % len(code)
                    self.assertEqual(values, sorted({code[word] for word in readings(code, first, span)}))
                    self.assertEqual(values, numbers_read(code.words, first, span))

    def test_goes_round(self):
        for code in (GRAY, TWO, JOHNSON, single(8, 3), single(10, 4), SIXTEEN_GRAY):
            self.assertIs(goes_round(values_told(code, 1)), True)
        for code in (PLAIN, THREE, SIXTEEN):
            self.assertIs(goes_round(values_told(code, 1)), False)
        # In a ring of two or three, and of all words beside each other, this holds for more spans.
        for code in (TWO, TWO_WIDE, GRAY, JOHNSON):
            self.assertIs(goes_round(values_told(code, 3)), True)
        self.assertIs(goes_round(values_told(single(6, 3), 2)), False)

    def test_goes_round_by_turning(self):
        for code in NAMED + some_codes(90, 52):
            told = values_told(code, 3)
            right = all(
                {(value + by) % len(code) if value >= 0 else value for value in rows[at]}
                == set(rows[(at + by) % len(code)])
                for rows in told for at in range(len(code)) for by in range(len(code))
            )
            self.assertIs(goes_round(told), right)


class NumbersTest(unittest.TestCase):
    def test_there_and_back(self):
        source = random.Random(53)
        for bridge in some_bridges(80, 54):
            states = some_states(bridge, 30, source) + [first_state(bridge)]
            numbers = [number_of(bridge, state) for state in states]
            self.assertTrue(same(states_of(bridge, numbers), tuple(states)))
            # Of a bridge that has not met them yet, too.
            again = Bridge(bridge.code, bridge.depth, bridge.ahead, bridge.behind, bridge.slow)
            self.assertTrue(same(states_of(again, numbers), tuple(states)))
            # States are ordered as their numbers are.
            self.assertEqual([state for _, state in sorted(zip(numbers, states))], sorted(states))
            self.assertEqual(len(set(numbers)), len(set(states)))

    def test_no_states(self):
        bridge = Bridge(PLAIN, 2, 1, 2, 2)
        for thing in no_integers() + [0, first_state(Bridge(PLAIN, 2, 1, 2))]:
            self.assertEqual(number_of(bridge, thing), -1)

    def test_moves_and_arrivals(self):
        source = random.Random(55)
        for bridge in some_bridges(80, 56):
            writer, reader = both_sides(bridge)
            for state in some_states(bridge, 12, source):
                number = number_of(bridge, state)
                for beat in BEATS:
                    right = may_come(bridge, state, beat)
                    if isinstance(right, str):
                        continue
                    put, take = writer.move(number & writer.half, beat[0]), reader.move(number & reader.half, beat[1])
                    looks, glances = writer.arrivals(put, take & reader.window), reader.arrivals(take, put & writer.window)
                    found = states_of(bridge, [one + other for one in looks for other in glances])
                    self.assertTrue(same(found, right))

    def test_turned(self):
        source = random.Random(57)
        for bridge in some_bridges(60, 58):
            size = len(bridge.code)
            writer, reader = both_sides(bridge)
            for state in some_states(bridge, 10, source):
                number = number_of(bridge, state)
                back = writer.turned(number & writer.half) + reader.turned(number & reader.half)
                put, taken, looks, glances, puts, takes = state
                turned = [tuple((value - 1) % size if value >= 0 else -1 for value in seen) for seen in (looks, glances)]
                right = ((put - 1) % size, (taken - 1) % size, *turned, puts, takes)
                self.assertTrue(same(states_of(bridge, [back]), (right,)))


class CoursesTest(unittest.TestCase):
    def laps(self, many, seed):
        source = random.Random(seed)
        return [tuple(source.choice(BEATS) for _ in range(source.choice([1, 1, 2, 3, 6]))) for _ in range(many)]

    def test_pairs_that_come_up(self):
        counts = {"safe": 0, "broken": 0, "many": 0}
        bridges = some_bridges(150, 61, 6)
        for bridge, lap in zip(bridges, self.laps(len(bridges), 62)):
            try:
                course = Course(*both_sides(bridge), lap, False)
            except TooMany:
                counts["many"] += 1
                continue
            arrows = arrows_of(bridge, lap)
            found = {(pair >> course.place_at, *states_of(bridge, [pair])) for pair in course.pairs}
            self.assertEqual(found, set(arrows))
            broken = not all(after for _, after in arrows.values())
            self.assertIs(course.faults != [], broken)
            counts["broken" if broken else "safe"] += 1
        self.assertGreater(min(counts["safe"], counts["broken"]), 5, counts)

    def test_turned_courses(self):
        # What comes up turned stands for what comes up, turned until put is 0.
        counts = {True: 0, False: 0}
        bridges = [Bridge(code, depth, *late) for code in (TWO, GRAY, JOHNSON, single(6, 3), single(8, 3))
                   for depth in range(1, len(code)) for late in ((1, 1), (1, 2), (2, 1), (1, 1, 2), (1, 1, 3))]
        bridges = [bridge for bridge in bridges if goes_round(bridge.told)]
        for bridge, lap in itertools.product(bridges, (((2, 2),), ((2, 1), (2, 2), (0, 2)), *self.laps(2, 63))):
            course = Course(*both_sides(bridge), lap, True)
            if len(course.pairs) > 150:
                continue
            arrows = arrows_of(bridge, lap)
            found = {(pair >> course.place_at, *states_of(bridge, [pair])) for pair in course.pairs}
            self.assertEqual(found, {(place, self.turned_back(bridge, state)) for place, state in arrows})
            broken = not all(after for _, after in arrows.values())
            self.assertIs(course.faults != [], broken)
            counts[broken] += 1
        self.assertGreater(min(counts.values()), 10, counts)

    def turned_back(self, bridge, state):
        def back(values):
            return tuple((value - state[0]) % len(bridge.code) if value >= 0 else -1 for value in values)

        return (*back(state[:2]), back(state[2]), back(state[3]), *state[4:])

    def test_turned_courses_that_may_be_too_many(self):
        # Turned back they would be 8 * 303, 10 * 303 and 12 * 287 pairs at the most, and are 2,319, 2,895 and too many.
        for code, depth, turned, right in ((single(8, 3), 6, 303, 2319), (single(10, 4), 6, 303, 2895),
                                           (single(12, 4), 5, 287, None), (single(16, 4), 8, 199, 2599)):
            writer, reader = sides_of(values_told(code, 1), depth, 3, 3, 1)
            self.assertEqual(len(Course(writer, reader, ((2, 2),), True).pairs), turned)
            self.assertIs(turned_course(writer, reader, ((2, 2),)) is not None, turned * len(code) <= 3000)
            bridge = Bridge(code, depth, 3, 3)
            if right is None:
                for ask in (speeds, slowest):
                    with self.assertRaises(TooMany):
                        ask(bridge, ((2, 2),))
            else:
                self.assertEqual(len(slowest(bridge, ((2, 2),))[3]), right)
                self.assertEqual(speeds(Bridge(code, depth, 3, 3), ((2, 2),)), speeds(bridge, ((2, 2),)))
        # Too many even turned.
        writer, reader = sides_of(values_told(JOHNSON, 3), 3, 3, 3, 3)
        with self.assertRaises(TooMany):
            turned_course(writer, reader, ((2, 2),))

    def test_levels_and_ways(self):
        bridges = some_bridges(60, 64, 6)
        for bridge, lap in zip(bridges, self.laps(len(bridges), 65)):
            try:
                course = Course(*both_sides(bridge), lap, False)
            except TooMany:
                continue
            levels = course.levels()
            self.assertEqual(levels, sorted(levels))
            for number in range(0, len(course.nodes), 5):
                way = course.way_to(number)
                self.assertEqual((way[0], way[-1], len(way)), (0, number, levels[number] + 1))
                self.assertTrue(all(after in course.fans[before] for before, after in zip(way, way[1:])))


class CodesThatWereAskedTest(unittest.TestCase):
    def test_equal_all_the_same(self):
        code, other = Code(*PLAIN.words), Code(*PLAIN.words)
        readings(code, 1, 1)
        Bridge(code, 2, 1, 1)(first_state(Bridge(code, 2, 1, 1)), (2, 2))
        self.assertEqual(code, other)
        self.assertEqual((repr(code), code.text(), len(code)), (repr(other), other.text(), len(other)))
