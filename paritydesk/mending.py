"""Mending: the nearest word of a code, and how far mending goes."""

from paritydesk.checks import leaders
from paritydesk.desks import words_of
from paritydesk.words import lightness, plus, weight


def leader_for(desk, word):
    # Words have the same sign just if their sum is in the code: these are all that share it,
    # found without the leaders of all other signs.
    return min([plus(word, known) for known in words_of(desk)], key=lightness)


def mended(desk, word):
    return plus(word, leader_for(desk, word))


def gap(desk):
    return min([weight(word) for word in words_of(desk) if 1 in word], default=None)


def reach(desk):
    return max([weight(pair[1]) for pair in leaders(desk)])
