"""Figures: their looks, with no stroke broken and at a place."""

from litfigures.errors import NoFigure

SHAPES = (63, 6, 91, 79, 102, 109, 125, 7, 127, 111)
STROKES = (1, 2, 4, 8, 16, 32, 64)


def shape(figure):
    if figure < 0 or figure >= len(SHAPES):
        # The number stays out of the words: Python refuses to write out a very great one.
        raise NoFigure("a figure is a number from 0 to 9")
    return SHAPES[figure]


def is_lit(stroke, mark, whole):
    if mark == "good":
        return (whole & stroke) != 0
    return mark == "stuck"


def seen(figure, place):
    whole = shape(figure)
    return sum([stroke for stroke, mark in zip(STROKES, place) if is_lit(stroke, mark, whole)])


def may_be(look, place):
    return [figure for figure in range(len(SHAPES)) if seen(figure, place) == look]
