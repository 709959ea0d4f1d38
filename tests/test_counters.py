import copy
import time
import unittest

import plain
from litfigures.counters import best, least, starts
from litfigures.errors import Clash, NoNumber

G = "......."
ALL_DEAD = "-------"
ALL_STUCK = "+++++++"
MIXED = "-..+-+."

# What is seen of a counter: its panel, its start, how many rows.
COUNTERS = (
    (G, 0, 1), (G, 7, 3), (G, 9, 2), (G, 5, 40), (MIXED, 8, 1), (MIXED, 8, 5), (MIXED, 3, 40),
    ("-......", 1, 2), ("......-", 0, 3), ("....-..", 8, 3), (ALL_DEAD, 4, 12), (ALL_STUCK, 4, 12),
    ("+-+-+-+", 0, 40), ("+-.....", 6, 4),
    (f"{G} {G}", 0, 1), (f"{G} {G}", 99, 2), (f"{G} {G}", 95, 40), (f"{MIXED} {G}", 19, 2),
    (f"{G} {MIXED}", 78, 5), (f"{MIXED} {MIXED}", 98, 6), (f"{ALL_DEAD} {G}", 33, 3), (f"{G} {ALL_STUCK}", 97, 10),
    ("......- -......", 88, 14), (f"{ALL_DEAD} {ALL_STUCK}", 5, 40),
    (f"{G} {G} {G}", 0, 1), (f"{G} {G} {G}", 999, 2), (f"{G} {G} {G}", 980, 40), (f"{MIXED} {G} {G}", 998, 4),
    (f"{G} {MIXED} ......-", 89, 13), (f"{MIXED} {MIXED} {MIXED}", 399, 3), (f"{ALL_DEAD} {G} {MIXED}", 190, 12),
    ("....-.. -...... ......+", 970, 40), (f"{ALL_DEAD} {ALL_STUCK} +-+-+-+", 0, 5),
)

# Rows that no start has, with how many places they have.
NO_STARTS = (
    ([[127], [0], [127]], 1),
    ([[0], [127], [0], [127]], 1),
    ([[63], [6], [91], [79], [63]], 1),
    ([[63]] + [[6]] * 9 + [[6]], 1),
    ([[63, 127], [63, 0], [63, 127]], 2),
    ([[127, 63], [0, 6], [127, 91]], 2),
    ([[6, 63], [6, 6], [6, 91], [6, 91], [6, 102], [6, 91]], 2),
    ([[127, 63, 63], [0, 63, 6], [127, 63, 91]], 3),
    ([[63, 127, 63], [63, 0, 6], [63, 127, 91]], 3),
    ([[63, 63, 127], [63, 63, 0], [63, 63, 127]], 3),
)


def rows_on(signs, start, steps):
    return plain.rows_of(start, steps, plain.panel(signs))


def every_least(rows, places):
    found = {}
    for start in range(10 ** places):
        try:
            found[start] = least(rows, start)
        except Clash as refusal:
            assert type(refusal) is Clash
    return found


class Compared(unittest.TestCase):
    def check(self, rows, places, found):
        lowest = min(found.values(), default=None)
        self.assertEqual(starts(rows, places), sorted(found))
        self.assertEqual(every_least(rows, places), found)
        self.assertEqual(best(rows, places), [start for start in sorted(found) if found[start] == lowest])

    def test_counters_on_panels(self):
        for signs, start, steps in COUNTERS:
            with self.subTest(signs=signs, start=start, steps=steps):
                rows = rows_on(signs, start, steps)
                places = len(rows[0])
                found = plain.fewest_by_start(rows, places)
                self.assertIn(start, found)
                self.assertLessEqual(found[start], signs.count("-") + signs.count("+"))
                self.check(rows, places, found)

    def test_every_panel_of_one_place(self):
        for steps in (1, 2, 3, 4, 10):
            for index in range(0, 3 ** 7, 211):
                marks = plain.every_place()[index]
                rows = plain.rows_of(index % 10, steps, [marks])
                self.check(rows, 1, plain.fewest_by_start_on_panels(rows))

    def test_the_two_slow_ways_agree(self):
        for rows in ([[63]], [[63], [6]], [[0], [127]], [[127], [0], [127]], [[111], [63], [6]]):
            self.assertEqual(plain.fewest_by_start(rows, 1), plain.fewest_by_start_on_panels(rows))

    def test_rows_of_no_panel(self):
        for places in (1, 2):
            for k in range(60):
                rows = [[(k * 37 + step * 29 + place * 11) % 128 for place in range(places)]
                        for step in range(1 + k % 3)]
                self.check(rows, places, plain.fewest_by_start(rows, places))


class Told(unittest.TestCase):
    def test_one_row_may_be_of_any_start(self):
        for places in (1, 2, 3):
            self.assertEqual(starts([[63] * places], places), list(range(10 ** places)))
            self.assertEqual(best([[63] * places], places), [0])
            self.assertEqual(best([[111] * places], places), [10 ** places - 1])
        self.assertEqual([least([[63]], start) for start in range(10)], [0, 4, 3, 3, 4, 3, 2, 3, 1, 2])
        self.assertEqual(least([[63, 63]], 11), 8)
        self.assertEqual(least([[63, 63, 63]], 118), 9)

    def test_the_foremost_place_comes_first(self):
        self.assertEqual(best([[6, 91]], 2), [12])
        self.assertEqual(best([[6, 91, 79]], 3), [123])
        self.assertEqual(least([[6, 91]], 12), 0)
        self.assertEqual(least([[6, 91]], 21), 10)

    def test_over_the_greatest_number(self):
        for places in (1, 2, 3):
            rows = [[111] * places, [63] * places]
            greatest = 10 ** places - 1
            self.assertIn(greatest, starts(rows, places))
            self.assertEqual(least(rows, greatest), 0)
            self.assertEqual(best(rows, places), [greatest])
            self.assertEqual(best(rows + [[63] * (places - 1) + [6]], places), [greatest])

    def test_several_times_over_the_greatest_number(self):
        rows = [[plain.WHOLE[(7 + step) % 10]] for step in range(40)]
        self.assertEqual(starts(rows, 1), [7])
        self.assertEqual(least(rows, 7), 0)
        self.assertEqual(best(rows, 1), [7])

    def test_broken_strokes_stay_as_they_are(self):
        # From 0 on, stroke 0 is unlit at a figure that has it and then lit at one that has it not.
        rows = [[62], [7]]
        self.assertNotIn(0, starts(rows, 1))
        self.assertIn(0, starts([[62], [6]], 1))
        self.assertEqual(least([[62], [6]], 0), 1)
        self.assertRaises(Clash, least, rows, 0)

    def test_broken_strokes_are_counted_over_all_places(self):
        self.assertEqual(least([[62, 62, 62]], 0), 3)
        self.assertEqual(least([[62, 63, 127]], 0), 2)
        self.assertEqual(least([[0, 0]], 88), 14)

    def test_several_best_starts(self):
        # The looks of 3 and of 7 are each one stroke off.
        self.assertEqual(best([[15]], 1), [3, 7])
        self.assertEqual(best([[15, 63, 15]], 3), [303, 307, 703, 707])

    def test_one_best_start_among_many(self):
        self.assertEqual(starts([[127]], 1), list(range(10)))
        self.assertEqual(best([[127]], 1), [8])
        self.assertEqual(best([[0]], 1), [1])

    def test_forty_rows_of_three_places_are_told_soon(self):
        for look in (0, 63, 127):
            rows = [[look] * 3 for step in range(40)]
            begun = time.monotonic()
            self.assertEqual(len(starts(rows, 3)), 1000)
            best(rows, 3)
            self.assertLess(time.monotonic() - begun, 5)


class NoStart(unittest.TestCase):
    def test_none_is_told(self):
        for rows, places in NO_STARTS:
            with self.subTest(rows=rows):
                self.assertEqual(plain.fewest_by_start(rows, places), {})
                self.assertEqual(starts(rows, places), [])
                self.assertEqual(best(rows, places), [])

    def test_least_refuses_with_clash(self):
        for rows, places in NO_STARTS:
            for start in range(10 ** places):
                with self.assertRaises(Clash) as caught:
                    least(rows, start)
                self.assertIs(type(caught.exception), Clash)


class NoNumberRefused(unittest.TestCase):
    def refuse(self, rows, places):
        beyond = 10 ** places
        for start in (-1, -beyond, beyond, beyond + 1, 10 * beyond, -10 ** 20, 10 ** 20, -10 ** 5000, 10 ** 5000):
            with self.assertRaises(NoNumber) as caught:
                least(rows, start)
            self.assertIs(type(caught.exception), NoNumber)

    def test_where_every_start_is_open(self):
        for places in (1, 2, 3):
            self.refuse([[63] * places], places)
            self.refuse([[0] * places] * 40, places)

    def test_where_the_number_would_fit_if_counted_on(self):
        self.refuse([[63, 63], [63, 6]], 2)
        self.refuse([[111, 111], [63, 63]], 2)

    def test_ahead_of_clash(self):
        for rows, places in NO_STARTS:
            self.refuse(rows, places)

    def test_the_first_and_the_greatest_number_are_not_refused(self):
        for places in (1, 2, 3):
            self.assertEqual(least([[63] * places], 0), 0)
            self.assertEqual(least([[111] * places], 10 ** places - 1), 0)


class AskersOwn(unittest.TestCase):
    def test_rows_are_not_changed(self):
        for signs, start, steps in COUNTERS:
            rows = rows_on(signs, start, steps)
            before = copy.deepcopy(rows)
            places = len(rows[0])
            starts(rows, places)
            least(rows, start)
            best(rows, places)
            self.assertRaises(NoNumber, least, rows, 10 ** places)
            self.assertEqual(rows, before)

    def test_refused_rows_are_not_changed(self):
        for rows, places in NO_STARTS:
            before = copy.deepcopy(rows)
            starts(rows, places)
            best(rows, places)
            self.assertRaises(Clash, least, rows, 0)
            self.assertRaises(NoNumber, least, rows, -1)
            self.assertEqual(rows, before)

    def test_rows_are_not_kept(self):
        rows = [[63, 63], [63, 6]]
        self.assertEqual(best(rows, 2), [0])
        self.assertEqual(least(rows, 0), 0)
        rows[0][1] = 62
        self.assertEqual(least(rows, 0), 1)
        rows[1][1] = 7
        self.assertRaises(Clash, least, rows, 0)
        self.assertNotIn(0, starts(rows, 2))
        rows.pop()
        self.assertEqual(starts(rows, 2), list(range(100)))

    def test_told_lists_may_be_changed(self):
        for ask in (starts, best):
            for rows, places in (([[15, 15]], 2), ([[63]], 1), ([[127], [0], [127]], 1)):
                told = ask(rows, places)
                before = list(told)
                self.assertIs(type(told), list)
                told.append(99)
                told[0] = 77
                self.assertEqual(ask(rows, places), before)
                self.assertIsNot(ask(rows, places), ask(rows, places))


if __name__ == "__main__":
    unittest.main()
