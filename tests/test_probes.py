import copy
import unittest
from itertools import combinations, product

import plain
from litfigures.faults import open_marks
from litfigures.probes import probe, settles

GOOD = ["good"]
UNLIT = ["good", "dead"]
LIT = ["good", "stuck"]
BROKEN = ["dead", "stuck"]
ANY = ["good", "dead", "stuck"]
NONE_NEEDED = [["good"], ["dead"], ["stuck"], ["good"], ["dead"], ["stuck"], ["good"]]


def seven(some):
    return [list(some) for stroke in range(7)]


def one_stroke(stroke, some):
    marks = seven(GOOD)
    marks[stroke] = list(some)
    return marks


def many_marks():
    """Every choice at every stroke by itself and at all, and a good many mixed ones."""
    told = [one_stroke(stroke, some) for stroke in range(7) for some in plain.choices()]
    told.extend(seven(some) for some in plain.choices())
    mixed = list(product(plain.choices(), repeat=7))[::2999]
    told.extend([list(some) for some in marks] for marks in mixed)
    return told


class Settles(unittest.TestCase):
    def check(self, figures, marks, told):
        self.assertIs(settles(figures, marks), told)

    def test_no_figure(self):
        self.check([], NONE_NEEDED, True)
        for some in ([mark] for mark in ANY):
            self.check([], seven(some), True)
        for stroke in range(7):
            for some in (UNLIT, LIT, BROKEN, ANY):
                self.check([], one_stroke(stroke, some), False)

    def test_all_ten(self):
        for marks in many_marks():
            self.check(list(range(10)), marks, True)
            self.check(list(range(9, -1, -1)), marks, True)

    def test_good_or_dead_by_a_figure_with_the_stroke(self):
        for stroke in range(7):
            for figure in range(10):
                self.check([figure], one_stroke(stroke, UNLIT), plain.WHOLE[figure] >> stroke & 1 == 1)
        self.check([8], seven(UNLIT), True)
        self.check([0], seven(UNLIT), False)

    def test_good_or_stuck_by_a_figure_without_the_stroke(self):
        for stroke in range(7):
            for figure in range(10):
                self.check([figure], one_stroke(stroke, LIT), plain.WHOLE[figure] >> stroke & 1 == 0)
        self.check([8], seven(LIT), False)

    def test_dead_or_stuck_by_any_figure(self):
        for figure in range(10):
            self.check([figure], seven(BROKEN), True)

    def test_all_three_need_two_figures(self):
        for stroke in range(7):
            for figure in range(10):
                self.check([figure], one_stroke(stroke, ANY), False)
        self.check([0, 1], one_stroke(0, ANY), True)
        self.check([0, 2], one_stroke(0, ANY), False)
        self.check([1, 7], one_stroke(6, ANY), False)
        self.check([1, 2, 5], seven(ANY), True)
        self.check([1, 2], seven(ANY), False)

    def test_some_twice_and_not_rising(self):
        self.check([8, 8], seven(UNLIT), True)
        self.check([8, 8], seven(ANY), False)
        self.check([1, 1, 1], one_stroke(0, ANY), False)
        self.check([1, 0, 1, 0], one_stroke(0, ANY), True)
        self.check([5, 1, 2, 1, 5], seven(ANY), True)
        self.check([3, 3], NONE_NEEDED, True)

    def test_one_unsettled_stroke_is_enough(self):
        marks = seven(UNLIT)
        marks[6] = list(LIT)
        self.check([8], marks, False)
        self.check([0, 8], marks, True)
        marks = seven(UNLIT)
        marks[0] = list(LIT)
        self.check([8], marks, False)
        self.check([1, 8], marks, True)

    def test_compared(self):
        every = [list(some) for length in range(11) for some in combinations(range(10), length)]
        for index, marks in enumerate(many_marks()):
            for figures in every[index % 11::11]:
                self.check(figures, marks, plain.settles(figures, marks))
                self.check(figures[::-1] + figures, marks, plain.settles(figures, marks))


class Probe(unittest.TestCase):
    def test_no_figure_needed(self):
        self.assertEqual(probe(NONE_NEEDED), [])
        for mark in ANY:
            self.assertEqual(probe(seven([mark])), [])
        self.assertEqual(probe(open_marks([(8, 0)])), [])

    def test_one_figure(self):
        self.assertEqual(probe(seven(UNLIT)), [8])
        self.assertEqual(probe(one_stroke(6, UNLIT)), [2])
        self.assertEqual(probe(one_stroke(6, LIT)), [0])
        self.assertEqual(probe(one_stroke(0, LIT)), [1])

    def test_each_figure_is_the_one_that_is_needed(self):
        for figure in range(10):
            marks = [list(UNLIT) if plain.WHOLE[figure] >> stroke & 1 else list(LIT) for stroke in range(7)]
            self.assertEqual(probe(marks), [figure])

    def test_any_figure_will_do(self):
        self.assertEqual(probe(seven(BROKEN)), [0])
        self.assertEqual(probe(one_stroke(3, BROKEN)), [0])

    def test_several_figures(self):
        self.assertEqual(probe(one_stroke(0, ANY)), [0, 1])
        self.assertEqual(probe(one_stroke(6, ANY)), [0, 2])
        self.assertEqual(probe(seven(ANY)), [1, 2, 5])
        self.assertEqual(probe(open_marks([])), [1, 2, 5])

    def test_shorter_goes_ahead_of_lesser(self):
        marks = seven(UNLIT)
        self.assertIs(settles([0, 2], marks), True)
        self.assertEqual(probe(marks), [8])

    def test_the_lesser_at_the_first_difference(self):
        # In both, another list of two settles them too, whose last figure and whose sum are lesser.
        marks = [GOOD, GOOD, GOOD, ANY, LIT, GOOD, UNLIT]
        self.assertIs(settles([1, 2], marks), True)
        self.assertEqual(probe(marks), [0, 4])
        marks = [GOOD, UNLIT, GOOD, LIT, UNLIT, ANY, UNLIT]
        self.assertIs(settles([2, 4], marks), True)
        self.assertEqual(probe(marks), [1, 6])

    def test_compared(self):
        lengths = set()
        for marks in many_marks():
            told = probe(marks)
            self.assertEqual(told, plain.probe(marks), marks)
            self.assertIs(settles(told, marks), True)
            lengths.add(len(told))
        self.assertEqual(lengths, {0, 1, 2, 3})

    def test_of_open_marks(self):
        for figure in range(10):
            for look in range(0, 128, 5):
                marks = open_marks([(figure, look)])
                self.assertEqual(probe(marks), plain.probe(marks))


class AskersOwn(unittest.TestCase):
    def test_nothing_handed_in_is_changed(self):
        for marks in (NONE_NEEDED, seven(ANY), seven(UNLIT), one_stroke(4, LIT)):
            for figures in ([], [8, 8], [5, 2, 1], list(range(10))):
                before = copy.deepcopy((figures, marks))
                settles(figures, marks)
                probe(marks)
                self.assertEqual((figures, marks), before)

    def test_nothing_handed_in_is_kept(self):
        marks = seven(UNLIT)
        figures = [8]
        self.assertIs(settles(figures, marks), True)
        told = probe(marks)
        marks[6].append("stuck")
        self.assertIs(settles(figures, marks), False)
        self.assertEqual(told, [8])
        self.assertEqual(probe(marks), [0, 2])
        figures.append(0)
        self.assertIs(settles(figures, marks), True)
        marks[6] = ["stuck"]
        figures.pop()
        self.assertIs(settles(figures, marks), True)
        self.assertEqual(probe(marks), [0])

    def test_a_told_probe_may_be_changed(self):
        for marks, before in ((NONE_NEEDED, []), (seven(UNLIT), [8]), (seven(ANY), [1, 2, 5])):
            told = probe(marks)
            self.assertIs(type(told), list)
            told.append(9)
            told[0] = 7
            self.assertEqual(probe(marks), before)
            self.assertIsNot(probe(marks), probe(marks))


if __name__ == "__main__":
    unittest.main()
