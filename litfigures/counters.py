"""Counters: the numbers at which what was seen, row by row, may have begun."""

from litfigures.errors import Clash
from litfigures.faults import fewest
from litfigures.panels import check_number, figures_of, ten_to


def counted(start, steps, places):
    beyond = ten_to(places)
    return [figures_of((start + step) % beyond, places) for step in range(steps)]


def showings_at(place, shown_figures, rows):
    return [(figures[place], looks[place]) for figures, looks in zip(shown_figures, rows)]


def fewest_from(start, rows, places):
    # Strokes at one place say nothing of those at another, so each place goes by itself.
    shown_figures = counted(start, len(rows), places)
    return sum([fewest(showings_at(place, shown_figures, rows)) for place in range(places)])


def fewest_by_start(rows, places):
    found = {}
    for start in range(ten_to(places)):
        try:
            found[start] = fewest_from(start, rows, places)
        except Clash:
            continue
    return found


def starts(rows, places):
    return list(fewest_by_start(rows, places))


def least(rows, start):
    places = len(rows[0])
    # Counting begins anew behind the greatest number, so a start beyond it would pass unseen.
    check_number(start, places)
    return fewest_from(start, rows, places)


def best(rows, places):
    found = fewest_by_start(rows, places)
    lowest = min(list(found.values()), default=0)
    return [start for start, broken in found.items() if broken == lowest]
