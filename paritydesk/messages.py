"""Messages: a bit for each row of a desk, put to a word of its code and told back."""

from paritydesk.desks import has, heads, rows_of
from paritydesk.errors import NotIn
from paritydesk.words import none, plus


def put(desk, message):
    rows = rows_of(desk)
    word = none(desk[0])
    for bit, row in zip(message, rows):
        if bit == 1:
            word = plus(word, row)
    return word


def told_back(desk, word):
    if not has(desk, word):
        raise NotIn("this is no word of the code")
    # At the head of a row all other rows have a 0, so the message's bit stands there as it was.
    return tuple([word[head] for head in heads(desk)])
