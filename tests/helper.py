"""What several tests need: words, codes by plain closing, things of odd kinds, refusals."""

from functools import lru_cache
from itertools import product

from paritydesk import errors
from paritydesk.desks import made

REFUSALS = ("NoDesk", "NotIn", "Unlike", "NoPlace", "BadText", "BadWords")

EVEN = (4, ((1, 0, 0, 1), (0, 1, 0, 1), (0, 0, 1, 1)))
SEVEN = (7, ((1, 0, 0, 0, 0, 1, 1), (0, 1, 0, 0, 1, 0, 1), (0, 0, 1, 0, 1, 1, 0), (0, 0, 0, 1, 1, 1, 1)))
GAPPED = (5, ((0, 1, 1, 0, 0), (0, 0, 0, 0, 1)))
FULL = (10, tuple(tuple(1 if at == row else 0 for at in range(10)) for row in range(10)))
EMPTY = (3, ())
DESKS = (EVEN, SEVEN, GAPPED, FULL, EMPTY, (1, ()), (1, ((1,),)), (10, ()), (10, ((1,) * 10,)))


class Prickly:
    """Fails at whatever is asked of it but its class."""

    def fail(self, *rest):
        raise RuntimeError("asked of a thing of another kind")

    __eq__ = __ne__ = __lt__ = __le__ = __gt__ = __ge__ = fail
    __len__ = __iter__ = __getitem__ = __bool__ = __hash__ = __contains__ = fail
    __index__ = __int__ = __add__ = __radd__ = __mod__ = __xor__ = __repr__ = __str__ = fail


def odd_things():
    """Things that are no word, no desk, no list and no size."""
    return [
        None, True, False, -1, 11, 10 ** 30, 1.0, 2.5, float("nan"), 1j, "", "10", b"10", (), ("10",),
        {}, {0: 1}, set(), frozenset((0, 1)), range(2), iter([0, 1]), object(), object, len, Prickly(),
    ]


def odd_bits():
    """Things that are no bit, some of them equal to one."""
    return [
        True, False, 0.0, 1.0, 1 + 0j, 2, -1, None, "0", "1", b"1", (), (1,), [1], {}, set(), object(), Prickly(),
    ]


def all_words(size):
    return list(product((0, 1), repeat=size))


def added(one, other):
    return tuple(1 if a != b else 0 for a, b in zip(one, other))


def code_of(size, words):
    """All sums of the words, found by closing the set and nothing cleverer."""
    code = {(0,) * size}
    for word in words:
        code |= {added(word, known) for known in code}
    return code


def sample_lists():
    """Lists of words of all sizes, the same ones each time, as (size, words)."""
    found = []
    state = 7
    for size in range(1, 11):
        for length in (0, 1, 2, 3, 5, 8, 13, 20):
            words = []
            for _ in range(length):
                state = (state * 1103515245 + 12345) % 2 ** 31
                number = state >> 9
                words.append(tuple((number >> place) % 2 for place in range(size)))
            found.append((size, words))
    return found


def told_as_a_desk(desk):
    """Whether point 3 holds of a tuple of words, said word for word."""
    size, rows = desk
    firsts = []
    for row in rows:
        ones = [place for place in range(size) if row[place] == 1]
        if not ones:
            return False
        firsts.append(ones[0])
    rising = all(firsts[at] < firsts[at + 1] for at in range(len(firsts) - 1))
    alone = all(rows[at][firsts[by]] == 0 for at in range(len(rows)) for by in range(len(rows)) if at != by)
    return rising and alone


def no_desks():
    """What is no desk, of many kinds."""
    found = odd_things() + [[3, ()], (3,), (3, (), ()), ((), 3), [[1]], "3:", (3, None), (3, 7), (3, Prickly())]
    found += [(size, ()) for size in odd_things() + [0, "3", (3,), [3]]]
    found += [(3, rows) for rows in odd_things() if not isinstance(rows, tuple)] + [(3, ("100",))]
    found += [(2, [(1, 0)]), (2, {(1, 0): True}), (2, {(1, 0)}), (2, ([1, 0],)), (2, (1, 0)), (2, ("10",))]
    found += [(2, ((1, 0), (1, 0))), (2, ((0, 0),)), (2, ((1, 0), (0, 0))), (2, ((0, 0), (1, 0)))]
    found += [(2, ((0, 1), (1, 0))), (2, ((1, 1), (0, 1))), (2, ((1, 0), (1, 1))), (2, ((1, 0), (0, 1), (1, 1)))]
    found += [(2, ((1, 0, 0),)), (2, ((1,),)), (2, ((1, 0), (0, 1, 0))), (2, ((),)), (3, ((1, 0),))]
    found += [(11, ((1,) * 11,)), (0, ((),)), (1, ((1,),) * 1000), (10, FULL[1] + ((0,) * 10,))]
    found += [(2, ((bit, 0),)) for bit in odd_bits()] + [(2, ((1, bit),)) for bit in odd_bits()]
    found += [(2, ((1, 0), row)) for row in odd_things()]
    return found


def sample_desks():
    """Desks of all sizes, with no row, with some and with as many as the size, each once."""
    found = list(DESKS) + [made(size, words) for size, words in sample_lists()]
    found += [(size, ((1,) * size,)) for size in range(1, 11)]
    found += [(size, tuple(row[:size] for row in FULL[1][:size])) for size in range(1, 11)]
    return sorted(set(found))


@lru_cache(maxsize=None)
def small_desks_once():
    found = set()
    for size in range(1, 5):
        for words in product(all_words(size), repeat=size):
            found.add(made(size, list(words)))
    return tuple(sorted(found))


def small_desks():
    """The desks of all codes of sizes 1 to 4."""
    return list(small_desks_once())


def desks_of_size(size):
    """The sample desks of one size, and of a small one the desks of all codes."""
    return [desk for desk in (small_desks() if size < 5 else sample_desks()) if desk[0] == size]


def holds_just(case, desk, size, words):
    """See that this is the desk of a size whose code has just these words."""
    case.assertEqual([type(desk), type(desk[0]), type(desk[1])], [tuple, int, tuple])
    case.assertEqual(desk[0], size)
    for row in desk[1]:
        case.assertEqual([type(row), len(row)], [tuple, size])
        case.assertEqual({type(bit) for bit in row}, {int})
    case.assertTrue(told_as_a_desk(desk))
    case.assertEqual(code_of(size, desk[1]), set(words))


def even(one, other):
    """Whether two words have a 1 in common at an even number of places."""
    return len([place for place in range(len(one)) if one[place] == 1 and other[place] == 1]) % 2 == 0


def things_not_in(desk):
    """What is no word of a desk's size: other kinds, too long, too short, with a bit of another kind."""
    size = desk[0]
    code = sorted(code_of(size, desk[1]))[:9]
    found = odd_things() + [desk, desk[1], [0] * size, (0,) * (size + 1), (0,) * (size - 1), 0, 1]
    found += [list(word) for word in code] + [word + (0,) for word in code] + [word[1:] for word in code]
    found += ["".join(str(bit) for bit in word) for word in code] + [dict(enumerate(word)) for word in code]
    found += [tuple(bit == 1 for bit in word) for word in code] + [tuple(float(bit) for bit in word) for word in code]
    for word in code:
        found += [word[:place] + (word[place] == 1,) + word[place + 1:] for place in range(size)]
    for place in range(size):
        found += [(0,) * place + (bit,) + (0,) * (size - place - 1) for bit in odd_bits()]
    return found


def refused(case, name, call, *handed):
    """The error of a refusal, once it is seen to be of its own class and of no other of the six."""
    own = getattr(errors, name)
    for taken in (own, errors.ParityError, ValueError):
        with case.assertRaises(taken) as seen:
            call(*handed)
        for other in REFUSALS:
            case.assertEqual(isinstance(seen.exception, getattr(errors, other)), other == name)
    return seen.exception
