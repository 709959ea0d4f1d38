"""Notes: panels as texts, and texts as panels."""

from litfigures.errors import NoNote

SIGN_OF = {"good": ".", "dead": "-", "stuck": "+"}
MARK_OF = {".": "good", "-": "dead", "+": "stuck"}
SIGNS_IN_PLACE = 7
MOST_PLACES = 4


def written_place(place):
    return "".join([SIGN_OF[mark] for mark in place])


def written(panel):
    return " ".join([written_place(place) for place in panel])


def read_place(part):
    if len(part) != SIGNS_IN_PLACE:
        raise NoNote("a place is written by seven signs, with one blank between two places")
    if not all([sign in MARK_OF for sign in part]):
        raise NoNote("a sign of a place is none of the three")
    return [MARK_OF[sign] for sign in part]


def read(text):
    # Parted at each single blank, so that a blank too many leaves a part without signs.
    parts = text.split(" ")
    if len(parts) > MOST_PLACES:
        raise NoNote("a panel has at most 4 places")
    return [read_place(part) for part in parts]
