import copy
import unittest

import plain
from litfigures.errors import NoNote
from litfigures.notes import read, written

G = "......."
MIXED = ".-+.-+."
TEXTS = (
    G, MIXED, "-------", "+++++++", "-......", "......+",
    f"{G} {G}", f"{MIXED} -------", f"{G} {G} {G}", f"+++++++ {MIXED} {G}",
    f"{G} {G} {G} {G}", f"-...... +++++++ {MIXED} ......-",
)
NO_NOTES = (
    "", " ", "  ", "    ", " " * 7, " " * 60,
    # A blank too many, ahead, between, behind and within.
    f" {G}", f"{G} ", f"  {G}", f" {G} ", f"{G}  {G}", f"{G}   {G}", f"{G} {G} ", f" {G} {G}", f"{G} {G} {G} {G} ",
    f" {G} {G} {G} {G}", f"{G} {G}  {G} {G}", "... ....", ". . . . . . .", "...... .", ". ......",
    # A blank too few.
    f"{G}{G}", f"{G}{G} {G}", f"{G} {G}{G}", f"{G}{G}{G}{G}", f"{G}.{G}",
    # Six signs or eight, at each place.
    "......", "........", ".", "++++++", "--------", f"{G} ......", f"...... {G}", f"{G} ........", f"........ {G}",
    "...... ........", f"{G} {G} {G} ......", f"........ {G} {G} {G}", f"{G} ...... {G} {G}",
    # Five places, and more.
    f"{G} {G} {G} {G} {G}", f"{MIXED} {G} {G} {G} -------", " ".join([G] * 6), " ".join([G] * 7), " ".join([G] * 8),
    # Signs that are none of the three, at each stroke and place.
    "a......", "...a...", "......a", "......0", "good", "*......", ",......", "......_", "~......", "!......",
    f"{G} ...=...", f"...:... {G}", f"{G} {G} {G} ......o", f"{G},{G}", f"{G}_{G}", f"{G}|{G}", "DEAD+..",
    "xxxxxxx", "0000000", "-------x", "[.....]", "......'",
    # Beyond the signs that texts have.
    f"{G}\n", f"\n{G}", f"{G}\n{G}", f"{G}\t{G}", "......\n", "\u2212......",
)


class Written(unittest.TestCase):
    def test_each_mark(self):
        self.assertEqual(written([["good"] * 7]), ".......")
        self.assertEqual(written([["dead"] * 7]), "-------")
        self.assertEqual(written([["stuck"] * 7]), "+++++++")

    def test_stroke_by_stroke(self):
        marks = ["good", "dead", "stuck", "good", "dead", "stuck", "good"]
        self.assertEqual(written([marks]), ".-+.-+.")
        for stroke in range(7):
            for mark, sign in (("dead", "-"), ("stuck", "+")):
                marks = ["good"] * 7
                marks[stroke] = mark
                self.assertEqual(written([marks]), "." * stroke + sign + "." * (6 - stroke))

    def test_place_by_place(self):
        for text in TEXTS:
            self.assertEqual(written(plain.panel(text)), text)


class Read(unittest.TestCase):
    def test_texts(self):
        for text in TEXTS:
            self.assertEqual(read(text), plain.panel(text))

    def test_there_and_back_with_every_place(self):
        places = plain.every_place()
        for index, marks in enumerate(places):
            others = [places[index * 5 % 2187], places[index * 11 % 2187], places[2186 - index]]
            for panel in ([marks], [others[0], marks], [marks] + others[1:], others[:2] + [marks, others[2]]):
                self.assertEqual(read(written(panel)), panel)

    def test_no_note(self):
        for text in NO_NOTES:
            with self.subTest(text=text):
                with self.assertRaises(NoNote) as caught:
                    read(text)
                self.assertIs(type(caught.exception), NoNote)

    def test_each_other_sign_at_each_spot(self):
        others = [chr(code) for code in range(32, 127) if chr(code) not in ".-+"]
        for text in (MIXED, f"{G} {MIXED}"):
            for spot in range(len(text)):
                for sign in others:
                    changed = text[:spot] + sign + text[spot + 1:]
                    if changed != text:
                        self.assertRaises(NoNote, read, changed)

    def test_a_sign_more_or_fewer_at_each_spot(self):
        for text in TEXTS:
            for spot in range(len(text)):
                self.assertRaises(NoNote, read, text[:spot] + text[spot + 1:])
            for spot in range(len(text) + 1):
                for sign in ".-+ ":
                    self.assertRaises(NoNote, read, text[:spot] + sign + text[spot:])


class AskersOwn(unittest.TestCase):
    def test_a_panel_is_not_changed_nor_kept(self):
        panel = plain.panel(f"{G} {MIXED}")
        before = copy.deepcopy(panel)
        told = written(panel)
        self.assertEqual(panel, before)
        panel[0][0] = "dead"
        self.assertEqual(told, f"{G} {MIXED}")
        self.assertEqual(written(panel), f"-...... {MIXED}")
        panel.pop()
        self.assertEqual(written(panel), "-......")

    def test_a_read_panel_may_be_changed(self):
        for text in TEXTS:
            told = read(text)
            for k, place in enumerate(told):
                place[0] = "other"
                place.append("more")
                self.assertEqual(told[k + 1:], plain.panel(text)[k + 1:])
                self.assertEqual(read(text), plain.panel(text))
            told.clear()
            self.assertEqual(read(text), plain.panel(text))

    def test_no_two_told_lists_are_one(self):
        for text in TEXTS:
            one, other = read(text), read(text)
            told = [one, other] + one + other
            self.assertEqual(len({id(part) for part in told}), len(told))
            for part in told:
                self.assertIs(type(part), list)


if __name__ == "__main__":
    unittest.main()
