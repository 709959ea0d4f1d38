import copy
import unittest

import plain
from litfigures.errors import NoFigure
from litfigures.figures import may_be, seen, shape

NO_FIGURES = (-1, 10, -2, 11, -10, 127, -10 ** 20, 10 ** 20, -10 ** 5000, 10 ** 5000)
GOOD = "......."


class Shape(unittest.TestCase):
    def test_each_figure(self):
        told = [shape(figure) for figure in range(10)]
        self.assertEqual(told, [63, 6, 91, 79, 102, 109, 125, 7, 127, 111])

    def test_no_figure(self):
        for number in NO_FIGURES:
            with self.assertRaises(NoFigure) as caught:
                shape(number)
            self.assertIs(type(caught.exception), NoFigure)


class Seen(unittest.TestCase):
    def seen_at(self, signs):
        marks = plain.place(signs)
        return [seen(figure, marks) for figure in range(10)]

    def test_all_good(self):
        self.assertEqual(self.seen_at(GOOD), [63, 6, 91, 79, 102, 109, 125, 7, 127, 111])

    def test_all_dead(self):
        self.assertEqual(self.seen_at("-------"), [0] * 10)

    def test_all_stuck(self):
        self.assertEqual(self.seen_at("+++++++"), [127] * 10)

    def test_first_and_last_stroke(self):
        self.assertEqual(self.seen_at("-......"), [62, 6, 90, 78, 102, 108, 124, 6, 126, 110])
        self.assertEqual(self.seen_at("+......"), [63, 7, 91, 79, 103, 109, 125, 7, 127, 111])
        self.assertEqual(self.seen_at("......-"), [63, 6, 27, 15, 38, 45, 61, 7, 63, 47])
        self.assertEqual(self.seen_at("......+"), [127, 70, 91, 79, 102, 109, 125, 71, 127, 111])

    def test_mixed(self):
        # Good are 1, 2 and 6 (worth 2, 4 and 64), stuck are 3 and 5 (worth 8 and 32).
        self.assertEqual(self.seen_at("-..+-+."), [46, 46, 106, 110, 110, 108, 108, 46, 110, 110])

    def test_every_place(self):
        for marks in plain.every_place():
            told = [seen(figure, marks) for figure in range(10)]
            self.assertEqual(told, [plain.look(figure, marks) for figure in range(10)], marks)

    def test_no_figure(self):
        for signs in (GOOD, "-------", "+++++++", "-..+-+."):
            for number in NO_FIGURES:
                with self.assertRaises(NoFigure) as caught:
                    seen(number, plain.place(signs))
                self.assertIs(type(caught.exception), NoFigure)


class MayBe(unittest.TestCase):
    def test_no_figure_is_seen_so(self):
        self.assertEqual(may_be(0, plain.place(GOOD)), [])
        self.assertEqual(may_be(126, plain.place(GOOD)), [])
        self.assertEqual(may_be(1, plain.place("-------")), [])
        self.assertEqual(may_be(126, plain.place("+++++++")), [])
        # The whole look of 8 is not seen where a stroke of it is dead.
        self.assertEqual(may_be(127, plain.place("....-..")), [])

    def test_one_figure_is_seen_so(self):
        for figure, look in enumerate(plain.WHOLE):
            self.assertEqual(may_be(look, plain.place(GOOD)), [figure])
        self.assertEqual(may_be(47, plain.place("....-..")), [0])

    def test_several_figures_are_seen_so(self):
        self.assertEqual(may_be(109, plain.place("....-..")), [5, 6])
        self.assertEqual(may_be(111, plain.place("....-..")), [8, 9])
        self.assertEqual(may_be(127, plain.place("......+")), [0, 8])
        self.assertEqual(may_be(46, plain.place("-..+-+.")), [0, 1, 7])
        self.assertEqual(may_be(110, plain.place("-..+-+.")), [3, 4, 8, 9])

    def test_all_figures_are_seen_so(self):
        self.assertEqual(may_be(0, plain.place("-------")), list(range(10)))
        self.assertEqual(may_be(127, plain.place("+++++++")), list(range(10)))
        self.assertEqual(may_be(85, plain.place("+-+-+-+")), list(range(10)))

    def test_every_look_at_many_places(self):
        for marks in plain.every_place()[::13]:
            looks = [plain.look(figure, marks) for figure in range(10)]
            for look in range(128):
                fitting = [figure for figure in range(10) if looks[figure] == look]
                self.assertEqual(may_be(look, marks), fitting, (look, marks))


class AskersOwn(unittest.TestCase):
    def test_a_place_is_not_changed(self):
        for signs in (GOOD, "-..+-+.", "-------", "+++++++"):
            marks = plain.place(signs)
            before = copy.deepcopy(marks)
            seen(8, marks)
            may_be(110, marks)
            with self.assertRaises(NoFigure):
                seen(10, marks)
            self.assertEqual(marks, before)

    def test_a_place_is_not_kept(self):
        marks = plain.place(GOOD)
        self.assertEqual(seen(8, marks), 127)
        self.assertEqual(may_be(127, marks), [8])
        marks[6] = "dead"
        self.assertEqual(seen(8, marks), 63)
        self.assertEqual(may_be(127, marks), [])
        self.assertEqual(may_be(63, marks), [0, 8])

    def test_a_told_list_may_be_changed(self):
        marks = plain.place("....-..")
        for look, fitting in ((109, [5, 6]), (47, [0]), (0, [])):
            told = may_be(look, marks)
            told.append(99)
            told[0] = 77
            self.assertEqual(may_be(look, marks), fitting)
            self.assertIsNot(may_be(look, marks), may_be(look, marks))


if __name__ == "__main__":
    unittest.main()
