"""What the document promises over the whole program: points 1 and 4, and the refusals."""

import copy
import importlib
import unittest

from paritydesk import errors
from paritydesk.checks import checks, leaders, sign
from paritydesk.counting import are_free, counts, counts_of_checks, rank, tell_all
from paritydesk.cutting import cut, kept
from paritydesk.desks import checked, count, has, heads, made, words_of
from paritydesk.mending import gap, mended, reach
from paritydesk.messages import put, told_back
from paritydesk.several import beside, doubled, joined, met, within
from paritydesk.tearing import fillings, sure
from paritydesk.texts import read, shown
from paritydesk.words import apart, is_word, meet_evenly, none, plus, weight
from tests.helper import DESKS, EMPTY, EVEN, FULL, GAPPED, REFUSALS, SEVEN, desks_of_size, refused
from tests.test_interface import FUNCTIONS

TELL_LISTS = ("heads", "words_of", "leaders", "fillings", "counts", "counts_of_checks")


def calls_for(desk):
    """Each function of the interface with what is handed to it, for one desk."""
    size, rows = desk
    ones = (1,) * size
    one = (size, (ones,))
    torn = (None,) * (size - 1) + (0,)
    places = list(range(size))[::-2]
    found = [
        (is_word, ones, size), (is_word, [1] * size, size), (plus, ones, none(size)), (weight, ones),
        (apart, ones, none(size)), (meet_evenly, ones, ones), (none, size),
        (made, size, list(rows)[::-1] + [ones, ones]), (checked, desk), (heads, desk), (has, desk, ones),
        (has, desk, [1] * size), (has, desk, {}), (count, desk), (words_of, desk),
        (put, desk, (1,) * len(rows)), (told_back, desk, none(size)),
        (checks, desk), (sign, desk, ones), (leaders, desk), (mended, desk, ones), (gap, desk), (reach, desk),
        (fillings, desk, torn), (sure, desk, torn),
        (joined, desk, one), (met, desk, one), (within, desk, one),
        (counts, desk), (counts_of_checks, counts(desk)),
        (rank, desk, places), (are_free, desk, places), (tell_all, desk, places), (shown, desk), (read, shown(desk)),
    ]
    if size > 1:
        found += [(cut, desk, size - 1), (kept, desk, 0)]
    if size < 6:
        found += [(beside, desk, one), (doubled, desk, one)]
    return found


def refusals():
    """Each way in which a function is told to refuse, as (name of the refusal, function, what is handed in)."""
    found = [("BadWords", made, *handed) for handed in (
        (2, None), (2, ((1, 0),)), (2, [(1, 0)] * 21), (0, []), (11, []), (True, []), (None, []), ("2", []), ([], []),
        (2, [(1, 0), (1,)]), (2, [[1, 0]]), (2, [(1, True)]), (2, [{}]))]
    found += [("NotIn", told_back, EVEN, thing) for thing in (
        (1, 0, 0, 0), (1, 0, 0, 1, 0), [1, 0, 0, 1], None, (), {})]
    one = (2, ((1, 1),))
    for call in (joined, met, within, doubled):
        found += [("Unlike", call, one, EMPTY), ("Unlike", call, EMPTY, one)]
    found += [("Unlike", beside, FULL, (1, ())), ("Unlike", beside, (1, ()), FULL), ("Unlike", beside, SEVEN, EVEN)]
    found += [("Unlike", doubled, SEVEN, SEVEN), ("Unlike", doubled, (6, ()), (6, ()))]
    for call in (cut, kept):
        found += [("NoPlace", call, GAPPED, place) for place in (-1, 5, True, False, "0", None, [], [0])]
        found += [("NoPlace", call, (1, ()), 0), ("NoPlace", call, (1, ((1,),)), 0)]
    found += [("BadText", read, thing) for thing in (
        "", "3", "0:", "11:", "03:", "3: ", "2: 10 10", "2: 12", None, [], {})]
    for thing in (None, [], {}, (0, ()), (3, [(1, 0, 0)]), [3, ()], (2, ((0, 0),)), (2, ((0, 1), (1, 0)))):
        found += [("NoDesk", call, thing) for call in (checked, heads, count, words_of, checks, leaders, gap, reach)]
        found += [("NoDesk", call, thing) for call in (counts, shown)]
        found += [("NoDesk", call, thing, (1, 0)) for call in (has, put, told_back, sign, mended, fillings, sure)]
        found += [("NoDesk", call, thing, 0) for call in (cut, kept)]
        found += [("NoDesk", call, thing, []) for call in (rank, are_free, tell_all)]
        for call in (joined, met, within, beside, doubled):
            found += [("NoDesk", call, thing, one), ("NoDesk", call, one, thing)]
    return found


def some_desks():
    """A few desks of each size from 1 to 10."""
    return list(DESKS) + [desk for size in range(1, 11) for desk in desks_of_size(size)[:4]]


class Whole(unittest.TestCase):
    def test_each_function_of_the_interface_is_called_here(self):
        called = {call[0].__name__ for call in calls_for(EVEN)}
        self.assertEqual(called, {row.partition("(")[0] for told in FUNCTIONS.values() for row in told})

    def test_what_is_handed_in_is_as_it_was(self):
        for desk in some_desks():
            for call in calls_for(desk):
                before = copy.deepcopy(call[1:])
                call[0](*call[1:])
                self.assertEqual(call[1:], before)

    def test_what_is_refused_is_as_it_was(self):
        for name, call, *handed in refusals():
            before = copy.deepcopy(handed)
            refused(self, name, call, *handed)
            self.assertEqual(handed, before)

    def test_a_list_that_was_emptied_is_told_again_as_it_was(self):
        seen = set()
        for desk in some_desks():
            for call in calls_for(desk):
                first = call[0](*call[1:])
                if isinstance(first, list):
                    seen.add(call[0].__name__)
                    before = copy.deepcopy(first)
                    self.assertIsNot(call[0](*call[1:]), first)
                    first.clear()
                    self.assertEqual(call[0](*call[1:]), before)
        self.assertEqual(seen, set(TELL_LISTS))

    def test_a_list_that_was_handed_in_is_not_told_back(self):
        for desk in some_desks():
            for call in calls_for(desk):
                told = call[0](*call[1:])
                if isinstance(told, list):
                    self.assertFalse(any(told is thing for thing in call[1:]))

    def test_emptied_after_it_was_handed_in(self):
        words = [(1, 1, 0), (0, 1, 1)]
        desk = made(3, words)
        words.clear()
        self.assertEqual(desk, (3, ((1, 0, 1), (0, 1, 1))))
        self.assertEqual(made(3, []), EMPTY)
        numbers = counts(desk)
        told = counts_of_checks(numbers)
        numbers.clear()
        self.assertEqual(told, [1, 0, 0, 1])

    def test_nothing_is_kept_between_calls(self):
        calls = [call for desk in some_desks() for call in calls_for(desk)]
        told = [call[0](*call[1:]) for call in calls]
        for name, call, *handed in refusals():
            with self.assertRaises(getattr(errors, name)):
                call(*handed)
        again = [call[0](*call[1:]) for call in reversed(calls)]
        self.assertEqual(again[::-1], told)

    def test_the_files_hold_what_they_held(self):
        modules = [importlib.import_module("paritydesk." + name) for name in list(FUNCTIONS) + ["errors"]]
        before = [copy.copy(vars(module)) for module in modules]
        values = [[repr(value) for name, value in vars(module).items() if name.isupper()] for module in modules]
        for desk in some_desks():
            for call in calls_for(desk):
                call[0](*call[1:])
        self.assertEqual([dict(vars(module)) for module in modules], before)
        self.assertEqual(
            [[repr(value) for name, value in vars(module).items() if name.isupper()] for module in modules], values)

    def test_each_refusal_has_its_own_class(self):
        seen = set()
        for name, call, *handed in refusals():
            refused(self, name, call, *handed)
            seen.add(name)
        self.assertEqual(seen, set(REFUSALS))

    def test_the_class_is_the_very_one(self):
        for name, call, *handed in refusals():
            self.assertIs(type(refused(self, name, call, *handed)), getattr(errors, name))


if __name__ == "__main__":
    unittest.main()
