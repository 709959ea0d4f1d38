import copy
import unittest

import plain
from litfigures.errors import Clash, NoFigure
from litfigures.faults import fewest, open_marks

ANY = ["good", "dead", "stuck"]
LIT = ["good", "stuck"]
UNLIT = ["good", "dead"]
NO_FIGURES = (-1, 10, -10, 11, 127, -10 ** 20, 10 ** 20, -10 ** 5000, 10 ** 5000)
# Each of them has a stroke with no open mark.
CLASHES = (
    [(8, 127), (8, 126)],
    [(8, 63), (8, 127)],
    [(1, 0), (1, 64)],
    [(0, 127), (8, 63)],
    [(8, 63), (0, 127)],
    [(8, 127), (8, 0)],
    [(7, 7), (1, 6), (7, 6)],
    [(0, 63), (1, 6), (2, 91), (3, 79), (4, 102), (5, 109), (6, 125), (7, 7), (8, 127), (0, 63), (9, 127)],
)


def showings_of(marks, figures):
    return [(figure, plain.look(figure, marks)) for figure in figures]


class Told(unittest.TestCase):
    def check(self, showings, marks, broken):
        self.assertEqual(open_marks(showings), marks)
        self.assertEqual(fewest(showings), broken)

    def check_slowly(self, showings):
        marks = plain.open_marks(showings)
        if marks is None:
            self.assertRaises(Clash, open_marks, showings)
            self.assertRaises(Clash, fewest, showings)
        else:
            self.check(showings, marks, plain.fewest(showings))

    def test_no_showing(self):
        self.check([], [ANY] * 7, 0)

    def test_one_showing(self):
        self.check([(8, 127)], [LIT] * 7, 0)
        self.check([(8, 0)], [["dead"]] * 7, 7)
        self.check([(1, 6)], [UNLIT, LIT, LIT, UNLIT, UNLIT, UNLIT, UNLIT], 0)
        self.check([(1, 127)], [["stuck"], LIT, LIT] + [["stuck"]] * 4, 5)
        self.check([(1, 0)], [UNLIT, ["dead"], ["dead"]] + [UNLIT] * 4, 2)
        self.check([(0, 64)], [["dead"]] * 6 + [["stuck"]], 7)
        self.check([(7, 14)], [["dead"], LIT, LIT, ["stuck"], UNLIT, UNLIT, UNLIT], 2)

    def test_every_single_showing(self):
        for figure in range(10):
            for look in range(128):
                self.check_slowly([(figure, look)])

    def test_one_figure_often(self):
        self.check([(8, 127)] * 40, [LIT] * 7, 0)
        self.check([(1, 7)] * 40, [["stuck"], LIT, LIT, UNLIT, UNLIT, UNLIT, UNLIT], 1)

    def test_forty_showings(self):
        for marks in plain.every_place()[::41]:
            showings = showings_of(marks, list(range(10)) * 4)
            self.assertEqual(len(showings), 40)
            self.check(showings, [[mark] for mark in marks], 7 - marks.count("good"))

    def test_the_last_of_forty_counts(self):
        showings = [(8, 127)] * 39
        self.check(showings + [(1, 127)], [["stuck"], LIT, LIT] + [["stuck"]] * 4, 5)
        self.check([(1, 127)] + showings, [["stuck"], LIT, LIT] + [["stuck"]] * 4, 5)

    def test_each_mark_of_each_stroke(self):
        for stroke in range(7):
            for mark in ANY:
                marks = ["good"] * 7
                marks[stroke] = mark
                self.check(showings_of(marks, range(10)), [[one] for one in marks], int(mark != "good"))

    def test_figures_with_and_without_each_stroke(self):
        for stroke in range(7):
            has = [figure for figure in range(10) if plain.WHOLE[figure] >> stroke & 1]
            lacks = [figure for figure in range(10) if figure not in has]
            for figures, mark, told in (
                (has, "good", LIT), (has, "stuck", LIT), (has, "dead", ["dead"]),
                (lacks, "good", UNLIT), (lacks, "dead", UNLIT), (lacks, "stuck", ["stuck"]),
            ):
                marks = ["good"] * 7
                marks[stroke] = mark
                showings = showings_of(marks, figures)
                self.assertEqual(open_marks(showings)[stroke], told, (stroke, figures, mark))
                self.check_slowly(showings)

    def test_every_place_with_all_figures(self):
        for marks in plain.every_place():
            self.check(showings_of(marks, range(10)), [[mark] for mark in marks], 7 - marks.count("good"))

    def test_many_places_with_some_figures(self):
        for index, marks in enumerate(plain.every_place()[::7]):
            for figures in ([index % 10], [index % 10, index // 10 % 10], [9, 0, index % 10, 4]):
                self.check_slowly(showings_of(marks, figures))

    def test_many_pairs_of_showings(self):
        for first in range(10):
            for second in range(10):
                for look in range(0, 128, 9):
                    for other in (look, look ^ 1, look ^ 64, look ^ 40, (look * 5 + 3) % 128, 127 ^ look):
                        self.check_slowly([(first, look), (second, other)])


class Refused(unittest.TestCase):
    def refuse(self, showings, refusal):
        for ask in (open_marks, fewest):
            with self.assertRaises(refusal) as caught:
                ask(showings)
            self.assertIs(type(caught.exception), refusal)

    def test_clash(self):
        for showings in CLASHES:
            self.refuse(showings, Clash)
            self.refuse(showings[::-1], Clash)

    def test_clash_at_each_stroke(self):
        for stroke in range(7):
            for figure in range(10):
                self.refuse([(figure, plain.WHOLE[figure]), (figure, plain.WHOLE[figure] ^ 2 ** stroke)], Clash)

    def test_a_look_that_no_place_can_have(self):
        # Stroke 6 is lit at a figure without it, so it is stuck and can't be unlit.
        self.refuse([(0, 127), (2, 27)], Clash)
        # All ten figures find out every stroke, so another look of any figure clashes.
        for marks in plain.every_place()[::83]:
            showings = showings_of(marks, range(10))
            for figure in range(10):
                self.refuse(showings + [(figure, plain.look(figure, marks) ^ 127)], Clash)
                self.refuse([(figure, plain.look(figure, marks) ^ 8)] + showings, Clash)

    def test_clash_in_the_last_of_forty(self):
        self.refuse([(8, 127)] * 39 + [(8, 126)], Clash)

    def test_no_figure(self):
        for number in NO_FIGURES:
            self.refuse([(number, 0)], NoFigure)
            self.refuse([(8, 127), (number, 127)], NoFigure)
            self.refuse([(number, 127), (8, 127)], NoFigure)
            self.refuse([(8, 127)] * 39 + [(number, 127)], NoFigure)

    def test_no_figure_goes_ahead_of_clash(self):
        for number in NO_FIGURES:
            for showings in CLASHES:
                self.refuse(showings + [(number, 63)], NoFigure)
                self.refuse([(number, 63)] + showings, NoFigure)
                self.refuse(showings[:1] + [(number, 63)] + showings[1:], NoFigure)


class AskersOwn(unittest.TestCase):
    def test_showings_are_not_changed(self):
        for showings in ([], [(1, 127)], [(0, 63), (1, 6), (8, 63)]):
            before = copy.deepcopy(showings)
            open_marks(showings)
            fewest(showings)
            self.assertEqual(showings, before)

    def test_refused_showings_are_not_changed(self):
        for showings in CLASHES:
            for asked, refusal in ((list(showings), Clash), (showings + [(10, 3)], NoFigure)):
                before = copy.deepcopy(asked)
                self.assertRaises(refusal, open_marks, asked)
                self.assertRaises(refusal, fewest, asked)
                self.assertEqual(asked, before)

    def test_showings_are_not_kept(self):
        showings = [(8, 127)]
        told = open_marks(showings)
        self.assertEqual(fewest(showings), 0)
        showings.append((1, 127))
        self.assertEqual(told, [LIT] * 7)
        self.assertEqual(open_marks(showings), [["stuck"], LIT, LIT] + [["stuck"]] * 4)
        self.assertEqual(fewest(showings), 5)
        showings.clear()
        self.assertEqual(open_marks(showings), [ANY] * 7)
        self.assertEqual(fewest(showings), 0)

    def test_told_lists_may_be_changed(self):
        for showings in ([], [(8, 127)], [(8, 0)], showings_of(["good"] * 7, range(10))):
            told = open_marks(showings)
            before = copy.deepcopy(told)
            for stroke, marks in enumerate(told):
                marks[0] = "other"
                marks.append("more")
                self.assertEqual(told[stroke + 1:], before[stroke + 1:])
                self.assertEqual(open_marks(showings), before)
            told.clear()
            self.assertEqual(open_marks(showings), before)
            self.assertEqual(fewest(showings), plain.fewest(showings))

    def test_no_two_told_lists_are_one(self):
        for showings in ([], [(8, 127)], [(8, 0)]):
            one, other = open_marks(showings), open_marks(showings)
            told = [one, other] + one + other
            self.assertEqual(len({id(part) for part in told}), 16)
            for part in told:
                self.assertIs(type(part), list)


if __name__ == "__main__":
    unittest.main()
