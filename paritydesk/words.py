"""Words of bits: what is one, their sums, weights and how they meet."""

LONGEST = 10


def is_number(thing, least, most):
    # True and False count as whole numbers for Python, but not here.
    if not isinstance(thing, int) or isinstance(thing, bool):
        return False
    return least <= thing <= most


def is_size(thing):
    return is_number(thing, 1, LONGEST)


def is_word(thing, size):
    if not is_size(size) or not isinstance(thing, tuple) or len(thing) != size:
        return False
    return all([is_number(bit, 0, 1) for bit in thing])


def plus(one, other):
    return tuple([(bit + opposite) % 2 for bit, opposite in zip(one, other)])


def weight(word):
    return sum(word)


def lightness(word):
    # The order in which leaders are chosen: the least weight, of several the first.
    return (weight(word), word)


def apart(one, other):
    return weight(plus(one, other))


def meet_evenly(one, other):
    return sum([bit * opposite for bit, opposite in zip(one, other)]) % 2 == 0


def none(size):
    return (0,) * size


def all_words(size):
    words = [()]
    for place in range(size):
        words = [(0,) + word for word in words] + [(1,) + word for word in words]
    return words
