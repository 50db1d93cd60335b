import unittest

from paritydesk.checks import checks
from paritydesk.desks import count
from paritydesk.mending import gap
from paritydesk.several import beside, doubled, joined, met, within
from tests.helper import EMPTY, EVEN, FULL, GAPPED, SEVEN, added, all_words, code_of, desks_of_size, holds_just
from tests.helper import no_desks, refused, small_desks

ONES = (4, ((1, 1, 1, 1),))
ENDS = (4, ((1, 0, 0, 1),))
FIRST = (4, ((1, 0, 0, 0),))
PAIR = (2, ((1, 1),))


def full(size):
    return (size, tuple(row[:size] for row in FULL[1][:size]))


def pairs_of_one_size():
    """All pairs of the desks of sizes 1 to 4, and of the sample desks of each size beyond."""
    found = []
    for size in range(1, 11):
        desks = desks_of_size(size)
        found += [(one, other) for one in desks for other in desks]
    return found


def some_desks(size):
    """A few desks of a size: with no row, with each word in the code, and some between."""
    desks = desks_of_size(size)
    return [(size, ()), full(size), (size, ((1,) * size,))] + desks[::len(desks) // 5 + 1]


def code(desk):
    return code_of(desk[0], desk[1])


class Joined(unittest.TestCase):
    def test_some_by_hand(self):
        self.assertEqual(joined(ONES, ENDS), (4, ((1, 0, 0, 1), (0, 1, 1, 0))))
        self.assertEqual(joined(ENDS, ONES), (4, ((1, 0, 0, 1), (0, 1, 1, 0))))
        self.assertEqual(joined(EVEN, FIRST), full(4))
        self.assertEqual(joined(EVEN, ONES), EVEN)
        self.assertEqual(joined(GAPPED, (5, ())), GAPPED)
        self.assertEqual(joined(EMPTY, EMPTY), EMPTY)
        self.assertEqual(joined((1, ()), (1, ((1,),))), (1, ((1,),)))

    def test_the_desk_of_all_sums_of_a_word_of_each(self):
        for one, other in pairs_of_one_size():
            if len(one[1]) + len(other[1]) < 11:
                sums = {added(word, second) for word in code(one) for second in code(other)}
                holds_just(self, joined(one, other), one[0], sums)

    def test_many_rows_in_both(self):
        for one, other in pairs_of_one_size():
            if len(one[1]) + len(other[1]) > 10:
                holds_just(self, joined(one, other), one[0], code_of(one[0], one[1] + other[1]))
        self.assertEqual(joined(FULL, FULL), FULL)

    def test_the_least_code_that_has_the_words_of_both(self):
        desks = desks_of_size(3)
        for one in desks:
            for other in desks:
                above = [desk for desk in desks if code(one) | code(other) <= code(desk)]
                self.assertEqual(joined(one, other), min(above, key=lambda desk: len(desk[1])))

    def test_the_checks_of_joined_are_met_of_the_checks(self):
        for one, other in pairs_of_one_size():
            self.assertEqual(checks(joined(one, other)), met(checks(one), checks(other)))


class Met(unittest.TestCase):
    def test_some_by_hand(self):
        self.assertEqual(met(EVEN, ONES), ONES)
        self.assertEqual(met(EVEN, FIRST), (4, ()))
        self.assertEqual(met(EVEN, (4, ((1, 0, 0, 0), (0, 1, 0, 0)))), (4, ((1, 1, 0, 0),)))
        self.assertEqual(met(full(4), EVEN), EVEN)
        self.assertEqual(met(EMPTY, full(3)), EMPTY)
        self.assertEqual(met(FULL, FULL), FULL)

    def test_the_desk_of_the_words_in_both(self):
        for one, other in pairs_of_one_size():
            first, second = code(one), code(other)
            both = [word for word in all_words(one[0]) if word in first and word in second]
            holds_just(self, met(one, other), one[0], both)

    def test_counts_times_one_another(self):
        for one, other in pairs_of_one_size():
            self.assertEqual(count(joined(one, other)) * count(met(one, other)), count(one) * count(other))


class Within(unittest.TestCase):
    def test_some_by_hand(self):
        self.assertIs(within(ONES, EVEN), True)
        self.assertIs(within(EVEN, ONES), False)
        self.assertIs(within(FIRST, EVEN), False)
        self.assertIs(within(EVEN, EVEN), True)
        self.assertIs(within((4, ()), EVEN), True)
        self.assertIs(within(EVEN, (4, ())), False)
        self.assertIs(within(EMPTY, EMPTY), True)

    def test_just_if_each_word_of_the_first_is_one_of_the_second(self):
        yes = 0
        for one, other in pairs_of_one_size():
            second = code(other)
            told = within(one, other)
            self.assertIs(told, all(word in second for word in code(one)))
            yes += told and one != other
        self.assertGreater(yes, 99)

    def test_turned_about_for_the_checks(self):
        for one, other in pairs_of_one_size():
            self.assertEqual(within(checks(other), checks(one)), within(one, other))


class Beside(unittest.TestCase):
    def test_some_by_hand(self):
        self.assertEqual(beside(PAIR, EMPTY), (5, ((1, 1, 0, 0, 0),)))
        self.assertEqual(beside(EMPTY, PAIR), (5, ((0, 0, 0, 1, 1),)))
        self.assertEqual(beside(PAIR, PAIR), (4, ((1, 1, 0, 0), (0, 0, 1, 1))))
        self.assertEqual(beside((1, ((1,),)), (1, ())), (2, ((1, 0),)))
        self.assertEqual(beside((1, ()), (1, ())), (2, ()))
        self.assertEqual(beside(full(5), full(5)), FULL)
        self.assertEqual(beside(SEVEN, EMPTY), (10, tuple(row + (0, 0, 0) for row in SEVEN[1])))

    def test_the_desk_of_all_words_with_a_word_behind_them(self):
        for left in range(1, 10):
            for right in range(1, 11 - left):
                for one in some_desks(left):
                    for other in some_desks(right):
                        words = {word + second for word in code(one) for second in code(other)}
                        holds_just(self, beside(one, other), left + right, words)

    def test_all_small_ones(self):
        for one in small_desks():
            for other in desks_of_size(2):
                words = {word + second for word in code(one) for second in code(other)}
                holds_just(self, beside(one, other), one[0] + 2, words)


class Doubled(unittest.TestCase):
    def test_some_by_hand(self):
        self.assertEqual(doubled(PAIR, (2, ())), (4, ((1, 1, 1, 1),)))
        self.assertEqual(doubled((2, ()), PAIR), (4, ((0, 0, 1, 1),)))
        self.assertEqual(doubled(full(2), PAIR), (4, ((1, 0, 0, 1), (0, 1, 0, 1), (0, 0, 1, 1))))
        self.assertEqual(doubled(PAIR, full(2)), (4, ((1, 1, 0, 0), (0, 0, 1, 0), (0, 0, 0, 1))))
        self.assertEqual(doubled((1, ((1,),)), (1, ())), (2, ((1, 1),)))
        self.assertEqual(doubled((1, ()), (1, ((1,),))), (2, ((0, 1),)))
        self.assertEqual(doubled((5, ()), (5, ())), (10, ()))
        self.assertEqual(doubled(full(5), full(5)), FULL)

    def test_the_desk_of_a_word_and_behind_it_its_sum_with_a_word_of_the_other(self):
        for one, other in pairs_of_one_size():
            if one[0] < 6:
                words = {word + added(word, second) for word in code(one) for second in code(other)}
                holds_just(self, doubled(one, other), one[0] + one[0], words)

    def test_the_gap(self):
        seen = 0
        for one, other in pairs_of_one_size():
            if one[0] < 6 and one[1] and other[1]:
                self.assertEqual(gap(doubled(one, other)), min(2 * gap(one), gap(other)))
                seen += 2 * gap(one) < gap(other)
        self.assertGreater(seen, 9)


class Refusals(unittest.TestCase):
    def test_unlike_sizes(self):
        for left in range(1, 11):
            for right in range(1, 11):
                for one in some_desks(left)[:4]:
                    for other in some_desks(right)[:4]:
                        if left != right:
                            for call in (joined, met, within, doubled):
                                refused(self, "Unlike", call, one, other)

    def test_more_than_10_bits_beside_one_another(self):
        for left in range(1, 11):
            for right in range(11 - left, 11):
                for one in some_desks(left)[:4]:
                    for other in some_desks(right)[:4]:
                        refused(self, "Unlike", beside, one, other)

    def test_doubled_of_a_size_of_more_than_5(self):
        for size in range(6, 11):
            for one in some_desks(size):
                for other in some_desks(size):
                    refused(self, "Unlike", doubled, one, other)

    def test_what_is_no_desk(self):
        for thing in no_desks():
            for call in (joined, met, within, beside, doubled):
                refused(self, "NoDesk", call, thing, PAIR)
                refused(self, "NoDesk", call, PAIR, thing)
                refused(self, "NoDesk", call, thing, FULL)

    def test_a_refusal_leaves_nothing_behind(self):
        for call in (joined, met, within, beside, doubled):
            before = call(PAIR, PAIR)
            refused(self, "Unlike", call, PAIR, FULL)
            refused(self, "NoDesk", call, PAIR, None)
            self.assertEqual(call(PAIR, PAIR), before)


if __name__ == "__main__":
    unittest.main()
