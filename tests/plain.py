"""What the document says, worked out the slow way, for the tests to compare with."""

from functools import lru_cache
from itertools import combinations, product

MARKS = {".": "good", "-": "dead", "+": "stuck"}
IN_ORDER = ("good", "dead", "stuck")
WHOLE = [63, 6, 91, 79, 102, 109, 125, 7, 127, 111]


def place(signs):
    return [MARKS[sign] for sign in signs]


def panel(signs):
    return [place(part) for part in signs.split(" ")]


def every_place():
    return [list(marks) for marks in product(IN_ORDER, repeat=7)]


def look(figure, marks):
    lit = 0
    for stroke, mark in enumerate(marks):
        has = WHOLE[figure] // 2 ** stroke % 2 == 1
        if mark == "stuck" or (mark == "good" and has):
            lit += 2 ** stroke
    return lit


def all_looks(places):
    """The looks of every number, the number being the index."""
    tables = [[look(figure, marks) for figure in range(10)] for marks in places]
    every = []
    for number in range(10 ** len(places)):
        figures = str(number).zfill(len(places))
        every.append([table[int(figure)] for table, figure in zip(tables, figures)])
    return every


def least_alike(every):
    met = {}
    for number, looks in enumerate(every):
        met.setdefault(tuple(looks), []).append(number)
    pairs = [(group[0], group[1]) for group in met.values() if len(group) > 1]
    return min(pairs) if pairs else None


@lru_cache(maxsize=None)
def numbered_places():
    return tuple(tuple(marks) for marks in every_place())


@lru_cache(maxsize=None)
def places_by_showing():
    """The indexes, in numbered_places(), of the places at which a figure is seen with a look."""
    behind = {}
    for index, marks in enumerate(numbered_places()):
        for figure in range(10):
            behind.setdefault((figure, look(figure, marks)), set()).add(index)
    return behind


@lru_cache(maxsize=None)
def broken_counts():
    return [7 - marks.count("good") for marks in numbered_places()]


def places_behind(showings):
    """The indexes of the places at which all showings would have been seen so."""
    fitting = set(range(3 ** 7))
    for showing in showings:
        fitting = fitting & places_by_showing()[showing]
    return fitting


def open_marks(showings):
    """None where no place is behind the showings."""
    fitting = [numbered_places()[index] for index in places_behind(showings)]
    if not fitting:
        return None
    return [[mark for mark in IN_ORDER if any(marks[stroke] == mark for marks in fitting)] for stroke in range(7)]


def fewest(showings):
    """None where no place is behind the showings."""
    return min([broken_counts()[index] for index in places_behind(showings)], default=None)


def rows_of(start, steps, places):
    """What is seen of a counter on a panel."""
    every = all_looks(places)
    return [list(every[(start + step) % len(every)]) for step in range(steps)]


def fewest_by_start(rows, places):
    """The open starts, each with its fewest broken strokes."""
    found = {}
    for start in range(10 ** places):
        texts = [str((start + step) % 10 ** places).zfill(places) for step in range(len(rows))]
        counts = []
        for k in range(places):
            counts.append(fewest([(int(text[k]), row[k]) for text, row in zip(texts, rows)]))
            if counts[-1] is None:
                break
        else:
            found[start] = sum(counts)
    return found


def fewest_by_start_on_panels(rows):
    """The same for one place, by running the counter on every panel."""
    found = {}
    for marks in every_place():
        looks = [look(figure, marks) for figure in range(10)]
        for start in range(10):
            if all([looks[(start + step) % 10]] == row for step, row in enumerate(rows)):
                broken = 7 - marks.count("good")
                found[start] = min(found.get(start, broken), broken)
    return found


def told_apart(figure, stroke, one, other):
    worth = 2 ** stroke
    return look(figure, [one] * 7) & worth != look(figure, [other] * 7) & worth


def settles(figures, marks):
    for stroke, here in enumerate(marks):
        for one, other in combinations(here, 2):
            if not any(told_apart(figure, stroke, one, other) for figure in figures):
                return False
    return True


def probe(marks):
    for length in range(11):
        fitting = [list(figures) for figures in combinations(range(10), length) if settles(figures, marks)]
        if fitting:
            return min(fitting)
    return None


def choices():
    """The lists of open marks that one stroke can have."""
    return [list(some) for length in (1, 2, 3) for some in combinations(IN_ORDER, length)]
