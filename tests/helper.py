"""What several tests need: words, codes by plain closing, things of odd kinds, refusals."""

from itertools import product

from paritydesk import errors

REFUSALS = ("NoDesk", "NotIn", "Unlike", "NoPlace", "BadText", "BadWords")


class Prickly:
    """Fails at whatever is asked of it but its class."""

    def fail(self, *rest):
        raise RuntimeError("asked of a thing of another kind")

    __eq__ = __ne__ = __lt__ = __le__ = __gt__ = __ge__ = fail
    __len__ = __iter__ = __getitem__ = __bool__ = __hash__ = __contains__ = fail
    __index__ = __int__ = __add__ = __radd__ = __mod__ = __xor__ = __repr__ = __str__ = fail


def odd_things():
    """Things that are no word, no desk, no list and no size."""
    return [
        None, True, False, -1, 11, 10 ** 30, 1.0, 2.5, float("nan"), 1j, "", "10", b"10", (), ("10",),
        {}, {0: 1}, set(), frozenset((0, 1)), range(2), iter([0, 1]), object(), object, len, Prickly(),
    ]


def odd_bits():
    """Things that are no bit, some of them equal to one."""
    return [
        True, False, 0.0, 1.0, 1 + 0j, 2, -1, None, "0", "1", b"1", (), (1,), [1], {}, set(), object(), Prickly(),
    ]


def all_words(size):
    return list(product((0, 1), repeat=size))


def added(one, other):
    return tuple(1 if a != b else 0 for a, b in zip(one, other))


def code_of(size, words):
    """All sums of the words, found by closing the set and nothing cleverer."""
    code = {(0,) * size}
    for word in words:
        code |= {added(word, known) for known in code}
    return code


def sample_lists():
    """Lists of words of all sizes, the same ones each time, as (size, words)."""
    found = []
    state = 7
    for size in range(1, 11):
        for length in (0, 1, 2, 3, 5, 8, 13, 20):
            words = []
            for _ in range(length):
                state = (state * 1103515245 + 12345) % 2 ** 31
                number = state >> 9
                words.append(tuple((number >> place) % 2 for place in range(size)))
            found.append((size, words))
    return found


def refused(case, name, call, *handed):
    """The error of a refusal, once it is seen to be of its own class and of no other of the six."""
    own = getattr(errors, name)
    for taken in (own, errors.ParityError, ValueError):
        with case.assertRaises(taken) as seen:
            call(*handed)
        for other in REFUSALS:
            case.assertEqual(isinstance(seen.exception, getattr(errors, other)), other == name)
    return seen.exception
