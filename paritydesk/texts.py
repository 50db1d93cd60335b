"""Texts: a desk written down and read back."""

from paritydesk.desks import is_desk, rows_of
from paritydesk.errors import BadText
from paritydesk.words import LONGEST

FIGURES = "01"


def figures_of(row):
    return "".join([FIGURES[bit] for bit in row])


def shown(desk):
    rows = rows_of(desk)
    size = desk[0]
    return " ".join([f"{size}:"] + [figures_of(row) for row in rows])


def size_told(front):
    # Held against each size as it is written, since `int` takes blanks, signs and noughts before it too.
    for size in range(1, LONGEST + 1):
        if front == f"{size}:":
            return size
    return None


def bits_told(part):
    # A sign that is no figure of a bit becomes -1, which no word has.
    return tuple([FIGURES.find(sign) for sign in part])


def read(text):
    if not isinstance(text, str):
        raise BadText("this is no text")
    parts = text.split(" ")
    desk = (size_told(parts[0]), tuple([bits_told(part) for part in parts[1:]]))
    if not is_desk(desk):
        raise BadText("this is no text of a desk")
    return desk
