"""Panels: the numbers that they show, the looks that are seen, and which numbers are alike."""

from litfigures.errors import NoNumber
from litfigures.figures import may_be, seen


def ten_to(power):
    worth = 1
    for step in range(power):
        worth = worth * 10
    return worth


def worths(places):
    return [ten_to(places - 1 - k) for k in range(places)]


def check_number(number, places):
    if number < 0 or number >= ten_to(places):
        # The number stays out of the words: Python refuses to write out a very great one.
        raise NoNumber("there are too few places for this number, or it is below 0")


def figures_of(number, places):
    return [number // worth % 10 for worth in worths(places)]


def shown(number, panel):
    check_number(number, len(panel))
    return [seen(figure, place) for figure, place in zip(figures_of(number, len(panel)), panel)]


def lengthened(heads, lasts):
    longer = []
    for head in heads:
        longer.extend([head * 10 + last for last in lasts])
    return longer


def numbers(looks, panel):
    heads = [0]
    for look, place in zip(looks, panel):
        heads = lengthened(heads, may_be(look, place))
    return heads


def alike_figures(place):
    for figure in range(10):
        fitting = may_be(seen(figure, place), place)
        if len(fitting) > 1:
            return (fitting[0], fitting[1])
    return None


def alike(panel):
    # Pairs that differ at one place and have noughts elsewhere are enough: noughts at all
    # places but the foremost one at which two alike numbers differ keep them alike, keep
    # the lesser one lesser, and make neither greater.
    pairs = []
    for worth, place in zip(worths(len(panel)), panel):
        pair = alike_figures(place)
        if pair is not None:
            pairs.append((pair[0] * worth, pair[1] * worth))
    return min(pairs, default=None)
