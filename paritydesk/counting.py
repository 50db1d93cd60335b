"""Counting: how many words of each weight a code has, and how much some places tell."""

from paritydesk.desks import rows_of, with_word, words_of
from paritydesk.words import weight


def counts(desk):
    weights = [weight(word) for word in words_of(desk)]
    return [weights.count(number) for number in range(desk[0] + 1)]


def surplus(size, ones):
    # Of the words of each weight, how many more meet a word with so many ones evenly than do not.
    # Each place brings a factor, 1 - x where that word has a 1, else 1 + x.
    found = [1]
    for place in range(size):
        step = -1 if place < ones else 1
        found = [number + step * left for number, left in zip(found + [0], [0] + found)]
    return found


def counts_of_checks(numbers):
    # Over all words of a code, a check counts once for each of them, and any other word
    # meets half of them evenly and half not, so that it counts for nothing.
    size = len(numbers) - 1
    totals = [0] * (size + 1)
    for ones, number in enumerate(numbers):
        totals = [total + number * more for total, more in zip(totals, surplus(size, ones))]
    words = sum(numbers)
    return [total // words for total in totals]


def rank(desk, places):
    # Not through `made`, since there may be no place at all, and words of no bits have no desk.
    found = []
    for row in rows_of(desk):
        found = with_word(found, tuple([row[place] for place in places]))
    return len(found)


def are_free(desk, places):
    return rank(desk, places) == len(places)


def tell_all(desk, places):
    return rank(desk, places) == len(rows_of(desk))
