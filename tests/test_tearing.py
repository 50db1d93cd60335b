import unittest
from itertools import product

from paritydesk.tearing import fillings, sure
from tests.helper import DESKS, EMPTY, EVEN, FULL, GAPPED, SEVEN, all_words, code_of, no_desks, refused
from tests.helper import sample_desks, small_desks


def some_torn(desk):
    """Torn words of a desk's size: all of a small one, else some with few, many and all places torn."""
    size = desk[0]
    if size < 5:
        return list(product((0, 1, None), repeat=size))
    found = [(None,) * size, (0,) * size, (1,) * size]
    words = all_words(size)
    code = sorted(code_of(size, desk[1]))
    for at, word in enumerate(code[::len(code) // 4 + 1] + words[::len(words) // 6]):
        for step in (1, 2, 3, size):
            found.append(tuple(None if (place + at) % step == 0 else word[place] for place in range(size)))
        found += [word, word[:at] + (None,) * (size - len(word[:at])), (None,) * (size - 1) + word[-1:]]
    return found


def fillings_anew(desk, torn):
    code = code_of(desk[0], desk[1])
    found = []
    for word in all_words(desk[0]):
        if word in code and not [1 for at in range(desk[0]) if torn[at] is not None and torn[at] != word[at]]:
            found.append(word)
    return found


def sure_anew(desk, torn):
    words = fillings_anew(desk, torn)
    if not words:
        return None
    columns = [sorted({word[place] for word in words}) for place in range(desk[0])]
    return tuple(column[0] if len(column) == 1 else None for column in columns)


class Fillings(unittest.TestCase):
    def test_nothing_torn(self):
        self.assertEqual(fillings(EVEN, (1, 0, 1, 0)), [(1, 0, 1, 0)])
        self.assertEqual(fillings(EVEN, (1, 0, 0, 0)), [])
        self.assertEqual(fillings((1, ()), (0,)), [(0,)])
        self.assertEqual(fillings((1, ()), (1,)), [])

    def test_some_places_torn(self):
        self.assertEqual(fillings(EVEN, (1, None, 0, None)), [(1, 0, 0, 1), (1, 1, 0, 0)])
        self.assertEqual(fillings(EVEN, (1, None, 0, 0)), [(1, 1, 0, 0)])
        self.assertEqual(fillings(GAPPED, (None, None, 1, 0, None)), [(0, 1, 1, 0, 0), (0, 1, 1, 0, 1)])
        self.assertEqual(fillings(GAPPED, (1, None, None, None, None)), [])
        self.assertEqual(fillings(SEVEN, (1, None, 1, 1, None, 1, 0)), [(1, 0, 1, 1, 0, 1, 0)])

    def test_all_places_torn(self):
        for desk in DESKS:
            self.assertEqual(fillings(desk, (None,) * desk[0]), sorted(code_of(desk[0], desk[1])))

    def test_found_anew_by_going_through_all_words(self):
        with_none = 0
        with_one = 0
        for desk in sample_desks() + small_desks():
            for torn in some_torn(desk)[::1 if desk[0] < 9 else 3]:
                told = fillings(desk, torn)
                self.assertIs(type(told), list)
                self.assertEqual(told, fillings_anew(desk, torn))
                self.assertEqual(told, sorted(told))
                with_none += len(told) == 0
                with_one += len(told) == 1
        self.assertGreater(with_none, 99)
        self.assertGreater(with_one, 99)

    def test_lists_are_new_ones_each_time(self):
        for desk in DESKS:
            torn = (None,) * desk[0]
            first = fillings(desk, torn)
            kept = list(first)
            self.assertIsNot(fillings(desk, torn), first)
            first.clear()
            self.assertEqual(fillings(desk, torn), kept)
            self.assertEqual(sure(desk, torn), sure_anew(desk, torn))


class Sure(unittest.TestCase):
    def test_nothing_torn(self):
        self.assertEqual(sure(EVEN, (1, 0, 1, 0)), (1, 0, 1, 0))
        self.assertIsNone(sure(EVEN, (1, 0, 0, 0)))

    def test_some_places_torn(self):
        self.assertEqual(sure(EVEN, (1, None, 0, None)), (1, None, 0, None))
        self.assertEqual(sure(EVEN, (1, None, 0, 0)), (1, 1, 0, 0))
        self.assertEqual(sure(GAPPED, (None, None, 1, None, None)), (0, 1, 1, 0, None))
        self.assertEqual(sure(SEVEN, (1, None, 1, 1, None, 1, 0)), (1, 0, 1, 1, 0, 1, 0))
        self.assertIsNone(sure(GAPPED, (1, None, None, None, None)))
        self.assertIsNone(sure(GAPPED, (None, 0, 1, None, None)))

    def test_all_places_torn(self):
        self.assertEqual(sure(EVEN, (None,) * 4), (None,) * 4)
        self.assertEqual(sure(GAPPED, (None,) * 5), (0, None, None, 0, None))
        self.assertEqual(sure(EMPTY, (None,) * 3), (0, 0, 0))
        self.assertEqual(sure(FULL, (None,) * 10), (None,) * 10)
        for size in range(1, 11):
            self.assertEqual(sure((size, ()), (None,) * size), (0,) * size)
            self.assertEqual(sure((size, ((1,) * size,)), (None,) * size), (None,) * size)
            self.assertEqual(sure((size, ((1,) * size,)), (None,) * (size - 1) + (1,)), (1,) * size)

    def test_found_anew_by_going_through_all_words(self):
        for desk in sample_desks() + small_desks():
            for torn in some_torn(desk)[::1 if desk[0] < 9 else 3]:
                told = sure(desk, torn)
                self.assertEqual(told, sure_anew(desk, torn))
                if told is not None:
                    self.assertIs(type(told), tuple)
                    self.assertTrue(all(bit is None or type(bit) is int for bit in told))

    def test_nothing_is_kept(self):
        told = [sure(desk, (None,) * desk[0]) for desk in DESKS]
        again = [sure(desk, (None,) * desk[0]) for desk in reversed(DESKS)]
        self.assertEqual(again[::-1], told)

    def test_what_is_no_desk(self):
        for thing in no_desks():
            refused(self, "NoDesk", fillings, thing, (1, None))
            refused(self, "NoDesk", sure, thing, (1, None))


if __name__ == "__main__":
    unittest.main()
