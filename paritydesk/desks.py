"""Desks: the one set of rows in which all words of a code stand."""

from paritydesk.errors import BadWords, NoDesk
from paritydesk.words import is_size, is_word, none, plus

MOST_WORDS = 20


def head_of(row):
    return row.index(1)


def rest_of(rows, word):
    # Each row alone has a 1 at its head, so one pass over the rows in any order is enough.
    for row in rows:
        if word[head_of(row)] == 1:
            word = plus(word, row)
    return word


def with_word(rows, word):
    rest = rest_of(rows, word)
    if 1 not in rest:
        return rows
    head = head_of(rest)
    cleared = [plus(row, rest) if row[head] == 1 else row for row in rows]
    # Of two words, the one whose first 1 stands further left is the greater tuple.
    return sorted(cleared + [rest], reverse=True)


def made(size, words):
    if not is_size(size) or not isinstance(words, list) or len(words) > MOST_WORDS:
        raise BadWords(None)
    for place, word in enumerate(words):
        if not is_word(word, size):
            raise BadWords(place)
    rows = []
    for word in words:
        rows = with_word(rows, word)
    return (size, tuple(rows))


def stand_as_rows(words):
    last = -1
    for word in words:
        if 1 not in word:
            return False
        head = head_of(word)
        if head <= last or sum([other[head] for other in words]) != 1:
            return False
        last = head
    return True


def is_desk(thing):
    if not isinstance(thing, tuple) or len(thing) != 2:
        return False
    size = thing[0]
    rows = thing[1]
    if not is_size(size) or not isinstance(rows, tuple):
        return False
    return all([is_word(row, size) for row in rows]) and stand_as_rows(rows)


def checked(desk):
    if not is_desk(desk):
        raise NoDesk("this is no desk")
    return desk


def rows_of(desk):
    return checked(desk)[1]


def heads(desk):
    return [head_of(row) for row in rows_of(desk)]


def has(desk, word):
    rows = rows_of(desk)
    return is_word(word, desk[0]) and 1 not in rest_of(rows, word)


def count(desk):
    total = 1
    for row in rows_of(desk):
        total = total + total
    return total


def words_of(desk):
    rows = rows_of(desk)
    words = [none(desk[0])]
    for row in rows:
        words = words + [plus(word, row) for word in words]
    return sorted(words)
