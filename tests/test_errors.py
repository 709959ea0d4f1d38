import unittest

from litfigures.errors import Clash, LitError, NoFigure, NoNote, NoNumber


class Classes(unittest.TestCase):
    def test_lit_error_stands_straight_under_value_error(self):
        self.assertEqual(LitError.__bases__, (ValueError,))

    def test_each_refusal_stands_straight_under_lit_error(self):
        for refusal in (NoFigure, NoNumber, Clash, NoNote):
            with self.subTest(refusal=refusal.__name__):
                self.assertEqual(refusal.__bases__, (LitError,))

    def test_they_have_their_names(self):
        names = [refusal.__name__ for refusal in (LitError, NoFigure, NoNumber, Clash, NoNote)]
        self.assertEqual(names, ["LitError", "NoFigure", "NoNumber", "Clash", "NoNote"])


if __name__ == "__main__":
    unittest.main()
