import copy
import unittest

import plain
from litfigures.errors import NoNumber
from litfigures.panels import alike, numbers, shown

G = "......."
# Each name tells the stroke that is broken and the alike figures that come of it.
DEAD_0 = "-......"  # 1 and 7
DEAD_3 = "...-..."  # none
DEAD_4 = "....-.."  # 5 and 6, 8 and 9
DEAD_6 = "......-"  # 0 and 8
STUCK_6 = "......+"  # 0 and 8
MIXED = "-..+-+."  # 0, 1 and 7; 3, 4, 8 and 9; 5 and 6
ALL_DEAD = "-------"
ALL_STUCK = "+++++++"
ALL_BROKEN = "+-+-+-+"

PANELS = (
    G, DEAD_0, DEAD_3, DEAD_4, DEAD_6, MIXED, ALL_DEAD, ALL_STUCK, ALL_BROKEN,
    f"{G} {G}", f"{DEAD_4} {G}", f"{G} {DEAD_4}", f"{DEAD_6} {DEAD_0}", f"{DEAD_0} {STUCK_6}",
    f"{MIXED} {ALL_BROKEN}", f"{ALL_DEAD} {ALL_STUCK}",
    f"{G} {G} {G}", f"{DEAD_0} {G} {G}", f"{G} {DEAD_0} {G}", f"{G} {G} {DEAD_0}",
    f"{STUCK_6} {DEAD_4} {DEAD_3}", f"{DEAD_3} {MIXED} {DEAD_0}", f"{ALL_STUCK} {G} {ALL_DEAD}",
    f"{G} {G} {G} {G}", f"{DEAD_3} {DEAD_3} {DEAD_3} {DEAD_3}", f"{DEAD_4} {G} {G} {DEAD_3}",
    f"{G} {DEAD_0} {DEAD_4} {G}", f"{DEAD_0} {DEAD_6} {DEAD_4} {DEAD_0}",
    f"{G} {MIXED} {G} {ALL_BROKEN}",
)


class Shown(unittest.TestCase):
    def check(self, number, signs, looks):
        self.assertEqual(shown(number, plain.panel(signs)), looks)

    def test_nought_has_noughts_ahead(self):
        for places in (1, 2, 3, 4):
            self.check(0, " ".join([G] * places), [63] * places)

    def test_the_greatest_number(self):
        for places in (1, 2, 3, 4):
            self.check(10 ** places - 1, " ".join([G] * places), [111] * places)

    def test_noughts_ahead(self):
        self.check(7, f"{G} {G}", [63, 7])
        self.check(42, f"{G} {G} {G}", [63, 102, 91])
        self.check(305, f"{G} {G} {G} {G}", [63, 79, 63, 109])
        self.check(1, f"{G} {G} {G} {G}", [63, 63, 63, 6])

    def test_noughts_behind(self):
        self.check(1000, f"{G} {G} {G} {G}", [6, 63, 63, 63])

    def test_the_foremost_place_comes_first(self):
        self.check(1234, f"{G} {G} {G} {G}", [6, 91, 79, 102])
        self.check(88, f"{DEAD_0} {DEAD_6}", [126, 63])
        self.check(8, f"{DEAD_6} {G} {STUCK_6}", [63, 63, 127])
        self.check(4071, f"{ALL_STUCK} {STUCK_6} {DEAD_0} {ALL_DEAD}", [127, 127, 6, 0])

    def test_every_number(self):
        for signs in PANELS:
            places = plain.panel(signs)
            told = [shown(number, places) for number in range(10 ** len(places))]
            self.assertEqual(told, plain.all_looks(places), signs)


class ShownRefuses(unittest.TestCase):
    def test_no_number(self):
        for signs in PANELS:
            places = plain.panel(signs)
            beyond = 10 ** len(places)
            for number in (-1, -beyond, beyond, beyond + 1, 10 * beyond,
                           -10 ** 20, 10 ** 20, -10 ** 5000, 10 ** 5000):
                with self.assertRaises(NoNumber) as caught:
                    shown(number, places)
                self.assertIs(type(caught.exception), NoNumber)


class Numbers(unittest.TestCase):
    def check(self, looks, signs, told):
        self.assertEqual(numbers(looks, plain.panel(signs)), told)

    def test_none(self):
        self.check([0], G, [])
        self.check([63, 0], f"{G} {G}", [])
        self.check([0, 63], f"{G} {G}", [])
        self.check([63, 127, 6], f"{G} {DEAD_4} {G}", [])
        self.check([0, 0, 0, 1], f"{ALL_DEAD} {ALL_DEAD} {ALL_DEAD} {ALL_DEAD}", [])
        self.check([126, 127, 127, 127], f"{ALL_STUCK} {ALL_STUCK} {ALL_STUCK} {ALL_STUCK}", [])

    def test_one(self):
        self.check([109], G, [5])
        self.check([63, 7], f"{G} {G}", [7])
        self.check([6, 63, 63], f"{G} {G} {G}", [100])
        self.check([63, 63, 63, 63], f"{G} {G} {G} {G}", [0])
        self.check([111, 111, 111, 111], f"{G} {G} {G} {G}", [9999])

    def test_several(self):
        self.check([111], DEAD_4, [8, 9])
        self.check([109, 6], f"{DEAD_4} {G}", [51, 61])
        self.check([109, 6], f"{DEAD_4} {DEAD_0}", [51, 57, 61, 67])
        self.check([63, 6, 127], f"{DEAD_6} {DEAD_0} {STUCK_6}", [10, 18, 70, 78, 810, 818, 870, 878])
        self.check([6, 46, 6, 91], f"{G} {MIXED} {DEAD_0} {G}", [1012, 1072, 1112, 1172, 1712, 1772])

    def test_every_stroke_broken(self):
        self.check([0], ALL_DEAD, list(range(10)))
        self.check([127, 0], f"{ALL_STUCK} {ALL_DEAD}", list(range(100)))
        self.check([0, 127, 85], f"{ALL_DEAD} {ALL_STUCK} {ALL_BROKEN}", list(range(1000)))
        self.check([0, 127, 85, 0], f"{ALL_DEAD} {ALL_STUCK} {ALL_BROKEN} {ALL_DEAD}", list(range(10000)))
        self.check([6, 0], f"{G} {ALL_DEAD}", list(range(10, 20)))
        self.check([0, 6], f"{ALL_DEAD} {G}", list(range(1, 100, 10)))

    def test_of_what_is_seen(self):
        for signs in PANELS:
            places = plain.panel(signs)
            every = plain.all_looks(places)
            for number in range(0, len(every), max(1, len(every) // 7)):
                fitting = [other for other in range(len(every)) if every[other] == every[number]]
                self.assertEqual(numbers(every[number], places), fitting, (signs, number))


class Alike(unittest.TestCase):
    def check(self, signs, told):
        answer = alike(plain.panel(signs))
        self.assertEqual(answer, told)
        self.assertIs(type(answer), type(told))

    def test_none_with_all_good(self):
        for places in (1, 2, 3, 4):
            self.check(" ".join([G] * places), None)

    def test_none_with_broken_strokes(self):
        for places in (1, 2, 3, 4):
            self.check(" ".join([DEAD_3] * places), None)
        self.check(f"{G} {DEAD_3} {G} {G}", None)

    def test_one_place(self):
        self.check(DEAD_0, (1, 7))
        self.check(DEAD_4, (5, 6))
        self.check(DEAD_6, (0, 8))
        self.check(MIXED, (0, 1))
        self.check(ALL_DEAD, (0, 1))

    def test_broken_foremost(self):
        self.check(f"{DEAD_0} {G}", (10, 70))
        self.check(f"{DEAD_4} {G} {G}", (500, 600))
        self.check(f"{DEAD_6} {G} {G} {G}", (0, 8000))
        self.check(f"{DEAD_0} {G} {G} {G}", (1000, 7000))

    def test_broken_in_the_middle(self):
        self.check(f"{G} {DEAD_0} {G}", (10, 70))
        self.check(f"{G} {DEAD_6} {G}", (0, 80))
        self.check(f"{G} {DEAD_4} {G} {G}", (500, 600))
        self.check(f"{G} {G} {DEAD_4} {G}", (50, 60))

    def test_broken_last(self):
        self.check(f"{G} {DEAD_0}", (1, 7))
        self.check(f"{G} {G} {STUCK_6}", (0, 8))
        self.check(f"{G} {G} {G} {DEAD_4}", (5, 6))

    def test_broken_at_several_places(self):
        # A nought that is alike further ahead gives a lesser first number than any figure behind it.
        self.check(f"{DEAD_6} {DEAD_0}", (0, 80))
        self.check(f"{DEAD_6} {DEAD_0} {DEAD_4}", (0, 800))
        self.check(f"{DEAD_0} {DEAD_6} {DEAD_4} {DEAD_0}", (0, 800))
        self.check(f"{DEAD_6} {DEAD_6}", (0, 8))
        self.check(f"{ALL_DEAD} {DEAD_6}", (0, 8))
        self.check(f"{DEAD_6} {ALL_DEAD}", (0, 1))
        self.check(f"{DEAD_0} {DEAD_4}", (5, 6))
        self.check(f"{DEAD_4} {DEAD_0} {DEAD_3}", (10, 70))

    def test_every_place_by_itself(self):
        for marks in plain.every_place():
            self.assertEqual(alike([marks]), plain.least_alike(plain.all_looks([marks])), marks)

    def test_many_pairs_of_places(self):
        places = plain.every_place()[::97]
        for ahead in places:
            for behind in places:
                told = plain.least_alike(plain.all_looks([ahead, behind]))
                self.assertEqual(alike([ahead, behind]), told, (ahead, behind))

    def test_the_panels(self):
        for signs in PANELS:
            places = plain.panel(signs)
            self.assertEqual(alike(places), plain.least_alike(plain.all_looks(places)), signs)


class AskersOwn(unittest.TestCase):
    def test_panels_and_looks_are_not_changed(self):
        for signs in PANELS:
            places = plain.panel(signs)
            looks = plain.all_looks(places)[-1]
            before = copy.deepcopy((places, looks))
            shown(3, places)
            numbers(looks, places)
            alike(places)
            with self.assertRaises(NoNumber):
                shown(-1, places)
            self.assertEqual((places, looks), before)

    def test_a_panel_is_not_kept(self):
        places = plain.panel(f"{G} {G}")
        self.assertEqual(shown(80, places), [127, 63])
        self.assertEqual(numbers([127, 63], places), [80])
        self.assertIsNone(alike(places))
        places[0][6] = "dead"
        self.assertEqual(shown(80, places), [63, 63])
        self.assertEqual(numbers([127, 63], places), [])
        self.assertEqual(alike(places), (0, 80))
        places.append(plain.place(DEAD_0))
        self.assertEqual(shown(80, places), [63, 127, 62])
        self.assertEqual(alike(places), (0, 800))

    def test_looks_are_not_kept(self):
        places = plain.panel(f"{G} {DEAD_6}")
        looks = [6, 63]
        self.assertEqual(numbers(looks, places), [10, 18])
        looks[0] = 91
        self.assertEqual(numbers(looks, places), [20, 28])

    def test_told_looks_may_be_changed(self):
        places = plain.panel(f"{G} {DEAD_6}")
        told = shown(18, places)
        told[0] = 0
        told.append(99)
        self.assertEqual(shown(18, places), [6, 63])
        self.assertIsNot(shown(18, places), shown(18, places))

    def test_told_numbers_may_be_changed(self):
        places = plain.panel(f"{G} {DEAD_6}")
        looks = [6, 63]
        for asked, fitting in ((looks, [10, 18]), ([0, 0], [])):
            told = numbers(asked, places)
            self.assertIsNot(told, asked)
            told.append(99)
            told[0] = 77
            self.assertEqual(numbers(asked, places), fitting)
        self.assertEqual(looks, [6, 63])


if __name__ == "__main__":
    unittest.main()
