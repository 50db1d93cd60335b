"""Several desks: joined, met, one within another, set beside one another and doubled."""

from paritydesk.checks import checks
from paritydesk.desks import checked, made
from paritydesk.errors import Unlike
from paritydesk.words import LONGEST, none


def size_of_both(one, other):
    size = checked(one)[0]
    if size != checked(other)[0]:
        raise Unlike("the desks are of unlike sizes")
    return size


def joined(one, other):
    size = size_of_both(one, other)
    return made(size, list(one[1] + other[1]))


def met(one, other):
    # A word is in both codes just if it meets evenly with the checks of both.
    return checks(joined(checks(one), checks(other)))


def within(one, other):
    return joined(one, other) == other


def beside(one, other):
    front = none(checked(one)[0])
    behind = none(checked(other)[0])
    size = len(front + behind)
    if size > LONGEST:
        raise Unlike("beside one another the desks have too many bits")
    return made(size, [row + behind for row in one[1]] + [front + row for row in other[1]])


def doubled(one, other):
    front = none(size_of_both(one, other))
    size = len(front + front)
    if size > LONGEST:
        raise Unlike("doubled, the desks have too many bits")
    return made(size, [row + row for row in one[1]] + [front + row for row in other[1]])
