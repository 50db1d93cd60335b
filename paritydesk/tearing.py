"""Torn words: bits of a word that are missing, and what the code tells of them."""

from paritydesk.desks import words_of


def agrees(word, torn):
    return all([known is None or known == bit for bit, known in zip(word, torn)])


def fillings(desk, torn):
    return [word for word in words_of(desk) if agrees(word, torn)]


def sure_at(words, place):
    bit = words[0][place]
    return bit if all([word[place] == bit for word in words]) else None


def sure(desk, torn):
    words = fillings(desk, torn)
    if len(words) == 0:
        return None
    return tuple([sure_at(words, place) for place in range(desk[0])])
