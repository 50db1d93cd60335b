"""Cutting: the words of a code without the bit at a place."""

from paritydesk.desks import made, rows_of
from paritydesk.errors import NoPlace
from paritydesk.words import is_number, plus


def rows_to_cut(desk, place):
    rows = rows_of(desk)
    if desk[0] == 1 or not is_number(place, 0, desk[0] - 1):
        raise NoPlace("this is no place at which the desk can be cut")
    return rows


def without(word, place):
    return word[:place] + word[place + 1:]


def cut(desk, place):
    rows = rows_to_cut(desk, place)
    return made(desk[0] - 1, [without(row, place) for row in rows])


def rows_with_nought(rows, place):
    # A sum has a 0 at the place just if it takes an even number of the rows with a 1 there:
    # these sums are those of such rows with the first of them.
    ones = [row for row in rows if row[place] == 1]
    return [row for row in rows if row[place] == 0] + [plus(ones[0], row) for row in ones[1:]]


def kept(desk, place):
    rows = rows_with_nought(rows_to_cut(desk, place), place)
    return made(desk[0] - 1, [without(row, place) for row in rows])
