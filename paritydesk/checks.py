"""Checks: the words that meet evenly with a whole code, and the signs by which they tell others apart."""

from paritydesk.desks import head_of, heads, made, rows_of
from paritydesk.words import all_words, lightness, meet_evenly, none


def check_of(size, rows, place):
    # Beside this place the check has ones at heads alone, and each row has but its own head there:
    # so the row's bit at the place tells whether its head is needed to meet evenly.
    bits = list(none(size))
    bits[place] = 1
    for row in rows:
        bits[head_of(row)] = row[place]
    return tuple(bits)


def checks(desk):
    taken = heads(desk)
    rows = rows_of(desk)
    size = desk[0]
    return made(size, [check_of(size, rows, place) for place in range(size) if place not in taken])


def sign_by(rows, word):
    return tuple([0 if meet_evenly(row, word) else 1 for row in rows])


def sign(desk, word):
    return sign_by(rows_of(checks(desk)), word)


def leaders(desk):
    rows = rows_of(checks(desk))
    found = {}
    for word in sorted(all_words(desk[0]), key=lightness):
        found.setdefault(sign_by(rows, word), word)
    return sorted(found.items())
