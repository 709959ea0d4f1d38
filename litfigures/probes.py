"""Probes: the figures to show to find out which of the open marks a place has."""

from litfigures.figures import STROKES, is_lit, shape


def seen_over(figures, stroke, mark):
    return tuple([is_lit(stroke, mark, shape(figure)) for figure in figures])


def settles_stroke(figures, stroke, marks):
    ways = [seen_over(figures, stroke, mark) for mark in marks]
    return len(set(ways)) == len(ways)


def settles(figures, marks):
    return all([settles_stroke(figures, stroke, here) for stroke, here in zip(STROKES, marks)])


def longer_by_one(rising):
    longer = []
    for figures in rising:
        lowest = figures[-1] + 1 if figures else 0
        longer.extend([figures + [figure] for figure in range(lowest, 10)])
    return longer


def probe(marks):
    # The lists of one length come in the order that decides between them, so the first is told.
    rising = [[]]
    for length in range(10):
        for figures in rising:
            if settles(figures, marks):
                return figures
        rising = longer_by_one(rising)
    return list(range(10))
