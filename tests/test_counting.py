import unittest
from itertools import combinations, permutations

from paritydesk.checks import checks
from paritydesk.counting import are_free, counts, counts_of_checks, rank, tell_all
from paritydesk.desks import heads
from paritydesk.tearing import fillings
from tests.helper import DESKS, EMPTY, EVEN, FULL, GAPPED, SEVEN, all_words, code_of, even, no_desks, refused
from tests.helper import sample_desks, small_desks


def counts_anew(size, words):
    found = {number: 0 for number in range(size + 1)}
    for word in words:
        found[len([bit for bit in word if bit == 1])] += 1
    return list(found.values())


def some_places(desk):
    """Lists of unlike places: of a small desk all, in each order; else some, rising, falling and turned."""
    size = desk[0]
    if size < 5:
        return [list(places) for length in range(size + 1) for places in permutations(range(size), length)]
    found = [[], list(range(size)), list(range(size))[::-1], [row.index(1) for row in desk[1]]]
    for length in range(1, size + 1):
        some = [list(places) for places in combinations(range(size), length)]
        found += some[::len(some) // 5 + 1]
        found += [places[::-1] for places in some[1::len(some) // 3 + 1]]
        found += [places[1:] + places[:1] for places in some[::len(some) // 3 + 1]]
    return found


def unlike_words(desk, places):
    """How many unlike words there are, cut to the places."""
    return len({tuple(word[place] for place in places) for word in code_of(desk[0], desk[1])})


class Counts(unittest.TestCase):
    def test_some_by_hand(self):
        self.assertEqual(counts(EVEN), [1, 0, 6, 0, 1])
        self.assertEqual(counts(SEVEN), [1, 0, 0, 7, 7, 0, 0, 1])
        self.assertEqual(counts(GAPPED), [1, 1, 1, 1, 0, 0])
        self.assertEqual(counts(FULL), [1, 10, 45, 120, 210, 252, 210, 120, 45, 10, 1])
        self.assertEqual(counts(EMPTY), [1, 0, 0, 0])
        self.assertEqual(counts((1, ())), [1, 0])
        self.assertEqual(counts((1, ((1,),))), [1, 1])

    def test_a_number_for_each_weight_from_0_to_the_size(self):
        for desk in sample_desks() + small_desks():
            told = counts(desk)
            self.assertIs(type(told), list)
            self.assertEqual({type(number) for number in told}, {int})
            self.assertEqual(told, counts_anew(desk[0], code_of(desk[0], desk[1])))


class CountsOfChecks(unittest.TestCase):
    def test_some_by_hand(self):
        self.assertEqual(counts_of_checks([1, 0, 6, 0, 1]), [1, 0, 0, 0, 1])
        self.assertEqual(counts_of_checks([1, 0, 0, 0, 1]), [1, 0, 6, 0, 1])
        self.assertEqual(counts_of_checks([1, 0, 0, 7, 7, 0, 0, 1]), [1, 0, 0, 0, 7, 0, 0, 0])
        self.assertEqual(counts_of_checks([1, 0]), [1, 1])
        self.assertEqual(counts_of_checks([1, 1]), [1, 0])
        self.assertEqual(counts_of_checks([1] + [0] * 10), counts(FULL))
        self.assertEqual(counts_of_checks(counts(FULL)), [1] + [0] * 10)

    def test_found_anew_by_going_through_all_words(self):
        for desk in sample_desks() + small_desks():
            words = [word for word in all_words(desk[0]) if all(even(word, row) for row in desk[1])]
            told = counts_of_checks(counts(desk))
            self.assertIs(type(told), list)
            self.assertEqual({type(number) for number in told}, {int})
            self.assertEqual(told, counts_anew(desk[0], words))
            self.assertEqual(told, counts(checks(desk)))

    def test_and_back(self):
        for desk in sample_desks() + small_desks():
            numbers = counts(desk)
            self.assertEqual(counts_of_checks(counts_of_checks(numbers)), numbers)

    def test_handed_in_stays_and_lists_are_new_ones(self):
        for desk in sample_desks():
            numbers = counts(desk)
            before = list(numbers)
            first = counts_of_checks(numbers)
            self.assertEqual(numbers, before)
            held = list(first)
            first.clear()
            numbers.clear()
            self.assertEqual(counts(desk), before)
            self.assertEqual(counts_of_checks(before), held)


class Rank(unittest.TestCase):
    def test_some_by_hand(self):
        self.assertEqual(rank(EVEN, []), 0)
        self.assertEqual(rank(EVEN, [3]), 1)
        self.assertEqual(rank(EVEN, [3, 1, 0]), 3)
        self.assertEqual(rank(EVEN, [0, 1, 2, 3]), 3)
        self.assertEqual(rank(GAPPED, [0, 3]), 0)
        self.assertEqual(rank(GAPPED, [1, 2]), 1)
        self.assertEqual(rank(GAPPED, [4, 2]), 2)
        self.assertEqual(rank(SEVEN, [4, 5, 6]), 3)
        self.assertEqual(rank(SEVEN, [0, 1, 6]), 2 + 1)
        self.assertEqual(rank(EMPTY, [0, 1, 2]), 0)
        self.assertEqual(rank((1, ((1,),)), [0]), 1)

    def test_found_anew_by_counting_unlike_words(self):
        for desk in sample_desks() + small_desks():
            for places in some_places(desk):
                told = rank(desk, places)
                self.assertIs(type(told), int)
                self.assertEqual(2 ** told, unlike_words(desk, places))

    def test_none_and_all_places(self):
        for desk in sample_desks() + small_desks():
            self.assertEqual(rank(desk, []), 0)
            self.assertEqual(rank(desk, list(range(desk[0]))), len(desk[1]))

    def test_places_stay_as_they_were(self):
        for desk in DESKS:
            for places in some_places(desk):
                before = list(places)
                for call in (rank, are_free, tell_all):
                    told = call(desk, places)
                    self.assertEqual(places, before)
                    self.assertEqual(call(desk, before), told)


class FreeAndTellAll(unittest.TestCase):
    def test_some_by_hand(self):
        self.assertIs(are_free(EVEN, [0, 1, 3]), True)
        self.assertIs(tell_all(EVEN, [0, 1, 3]), True)
        self.assertIs(are_free(EVEN, [0, 1, 2, 3]), False)
        self.assertIs(tell_all(EVEN, [0, 1, 2, 3]), True)
        self.assertIs(are_free(EVEN, [2]), True)
        self.assertIs(tell_all(EVEN, [2]), False)
        self.assertIs(are_free(GAPPED, [1, 2]), False)
        self.assertIs(tell_all(GAPPED, [1, 2]), False)
        self.assertIs(are_free(GAPPED, [0]), False)
        self.assertIs(are_free(EVEN, []), True)
        self.assertIs(tell_all(EVEN, []), False)
        self.assertIs(are_free(EMPTY, []), True)
        self.assertIs(tell_all(EMPTY, []), True)
        self.assertIs(tell_all(EMPTY, [1]), True)
        self.assertIs(are_free(EMPTY, [1]), False)

    def test_found_anew_by_counting_unlike_words(self):
        for desk in sample_desks() + small_desks():
            whole = len(code_of(desk[0], desk[1]))
            for places in some_places(desk):
                unlike = unlike_words(desk, places)
                self.assertIs(are_free(desk, places), unlike == 2 ** len(places))
                self.assertIs(tell_all(desk, places), unlike == whole)

    def test_the_heads_are_free_and_tell_all(self):
        for desk in sample_desks() + small_desks():
            self.assertIs(are_free(desk, heads(desk)), True)
            self.assertIs(tell_all(desk, heads(desk)), True)

    def test_what_is_no_desk(self):
        for thing in no_desks():
            refused(self, "NoDesk", counts, thing)
            for call in (rank, are_free, tell_all):
                refused(self, "NoDesk", call, thing, [])
                refused(self, "NoDesk", call, thing, [0])


class HowManyFillings(unittest.TestCase):
    def torn(self, word, places):
        return tuple(bit if at in places else None for at, bit in enumerate(word))

    def test_one_just_if_the_places_tell_all(self):
        ones = 0
        for desk in [desk for desk in sample_desks() if desk[0] < 9] + small_desks():
            words = sorted(code_of(desk[0], desk[1]))
            for places in some_places(desk)[::1 if desk[0] < 4 else 3]:
                for word in words[::len(words) // 3 + 1]:
                    told = fillings(desk, self.torn(word, places))
                    self.assertIn(word, told)
                    self.assertEqual(len(told) == 1, tell_all(desk, places))
                    self.assertEqual(len(told), 2 ** (len(desk[1]) - rank(desk, places)))
                    ones += len(told) == 1
        self.assertGreater(ones, 99)

    def test_none_or_as_many_as_the_places_leave_open(self):
        for desk in small_desks():
            for places in some_places(desk):
                for word in all_words(desk[0]):
                    told = fillings(desk, self.torn(word, places))
                    self.assertIn(len(told), (0, 2 ** (len(desk[1]) - rank(desk, places))))
                    if are_free(desk, places):
                        self.assertNotEqual(told, [])

    def test_sizes_9_and_10(self):
        for desk in [desk for desk in sample_desks() if desk[0] > 8]:
            word = max(code_of(desk[0], desk[1]))
            for places in (heads(desk), heads(desk)[1:], list(range(desk[0])), [], [8]):
                told = fillings(desk, self.torn(word, places))
                self.assertEqual(len(told) == 1, tell_all(desk, places))


if __name__ == "__main__":
    unittest.main()
