"""What the document says, worked out the slow way, for the tests to compare with."""

from itertools import product

MARKS = {".": "good", "-": "dead", "+": "stuck"}
WHOLE = [63, 6, 91, 79, 102, 109, 125, 7, 127, 111]


def place(signs):
    return [MARKS[sign] for sign in signs]


def panel(signs):
    return [place(part) for part in signs.split(" ")]


def every_place():
    return [list(marks) for marks in product(("good", "dead", "stuck"), repeat=7)]


def look(figure, marks):
    lit = 0
    for stroke, mark in enumerate(marks):
        has = WHOLE[figure] // 2 ** stroke % 2 == 1
        if mark == "stuck" or (mark == "good" and has):
            lit += 2 ** stroke
    return lit


def all_looks(places):
    """The looks of every number, the number being the index."""
    tables = [[look(figure, marks) for figure in range(10)] for marks in places]
    every = []
    for number in range(10 ** len(places)):
        figures = str(number).zfill(len(places))
        every.append([table[int(figure)] for table, figure in zip(tables, figures)])
    return every


def least_alike(every):
    met = {}
    for number, looks in enumerate(every):
        met.setdefault(tuple(looks), []).append(number)
    pairs = [(group[0], group[1]) for group in met.values() if len(group) > 1]
    return min(pairs) if pairs else None
