"""Broken strokes: the marks that may be behind what was seen at a place."""

from litfigures.errors import Clash
from litfigures.figures import STROKES, shape

MARKS = ("good", "dead", "stuck")
ALL_LIT = 127


def misfits(showings):
    # One sum of strokes for each mark, in the order of MARKS: those that were seen, at least
    # once, otherwise than with this mark. All strokes go at once, since counters ask this
    # for every start.
    good = 0
    dead = 0
    stuck = 0
    for figure, look in showings:
        good = good | (look ^ shape(figure))
        dead = dead | look
        stuck = stuck | (look ^ ALL_LIT)
    return (good, dead, stuck)


def fitting_marks(stroke, missed):
    return [mark for mark, strokes in zip(MARKS, missed) if (strokes & stroke) == 0]


def open_marks(showings):
    # All showings are gone through ahead of any Clash, so that NoFigure comes first.
    missed = misfits(showings)
    told = [fitting_marks(stroke, missed) for stroke in STROKES]
    if [] in told:
        raise Clash("a stroke was seen as no mark lets it be seen")
    return told


def fewest(showings):
    return len([marks for marks in open_marks(showings) if "good" not in marks])
