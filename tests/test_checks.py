import unittest

from paritydesk.checks import checks, leaders, sign
from tests.helper import DESKS, EMPTY, EVEN, FULL, GAPPED, SEVEN, added, all_words, code_of, even, no_desks, refused
from tests.helper import sample_desks, small_desks, told_as_a_desk


def even_words(desk):
    """All words that meet evenly with each row, found by going through all of the size."""
    return [word for word in all_words(desk[0]) if all(even(word, row) for row in desk[1])]


def desk_of(size, code):
    """The desk of a code: of each head that some word has, the word with noughts at all other heads."""
    places = sorted({word.index(1) for word in code if 1 in word})
    rows = []
    for place in places:
        fit = [word for word in code if all(word[other] == (1 if other == place else 0) for other in places)]
        rows.extend(fit)
    return (size, tuple(rows))


def leaders_anew(desk):
    """For each sign its leader, by going through all words by weight and order."""
    rows = desk_of(desk[0], even_words(desk))[1]
    found = {}
    for word in all_words(desk[0]):
        told = tuple(0 if even(row, word) else 1 for row in rows)
        if told not in found or sum(word) < sum(found[told]):
            found[told] = word
    return sorted(found.items())


class Checks(unittest.TestCase):
    def test_some_by_hand(self):
        self.assertEqual(checks(EVEN), (4, ((1, 1, 1, 1),)))
        self.assertEqual(checks((4, ((1, 1, 1, 1),))), EVEN)
        self.assertEqual(checks(SEVEN), (7, ((1, 0, 1, 0, 1, 0, 1), (0, 1, 1, 0, 0, 1, 1), (0, 0, 0, 1, 1, 1, 1))))
        self.assertEqual(checks(GAPPED), (5, ((1, 0, 0, 0, 0), (0, 1, 1, 0, 0), (0, 0, 0, 1, 0))))
        self.assertEqual(checks((2, ((1, 1),))), (2, ((1, 1),)))
        self.assertEqual(checks((3, ((1, 0, 1),))), (3, ((1, 0, 1), (0, 1, 0))))

    def test_the_desk_of_all_words_that_meet_evenly_with_each_row(self):
        for desk in sample_desks() + small_desks():
            told = checks(desk)
            self.assertIs(type(told), tuple)
            self.assertIs(type(told[1]), tuple)
            self.assertEqual(told[0], desk[0])
            self.assertTrue(told_as_a_desk(told))
            self.assertEqual(sorted(code_of(told[0], told[1])), even_words(desk))
            self.assertEqual(told, desk_of(desk[0], even_words(desk)))

    def test_they_meet_evenly_with_each_word_of_the_code(self):
        for desk in sample_desks():
            code = sorted(code_of(desk[0], desk[1]))
            for row in checks(desk)[1]:
                self.assertTrue(all(even(row, word) for word in code))

    def test_the_checks_of_the_checks(self):
        for desk in sample_desks() + small_desks():
            self.assertEqual(checks(checks(desk)), desk)

    def test_as_many_rows_together_as_the_size(self):
        for desk in sample_desks() + small_desks():
            self.assertEqual(len(desk[1]) + len(checks(desk)[1]), desk[0])

    def test_no_row_and_all_rows(self):
        for size in range(1, 11):
            full = (size, tuple(row[:size] for row in FULL[1][:size]))
            self.assertEqual(checks((size, ())), full)
            self.assertEqual(checks(full), (size, ()))

    def test_what_is_no_desk(self):
        for thing in no_desks():
            refused(self, "NoDesk", checks, thing)
            refused(self, "NoDesk", sign, thing, (1, 0))
            refused(self, "NoDesk", leaders, thing)

    def test_nothing_is_kept(self):
        told = [(checks(desk), sign(desk, (1,) * desk[0]), leaders(desk)) for desk in DESKS]
        again = [(checks(desk), sign(desk, (1,) * desk[0]), leaders(desk)) for desk in reversed(DESKS)]
        self.assertEqual(again[::-1], told)


class Sign(unittest.TestCase):
    def test_some_by_hand(self):
        self.assertEqual(sign(EVEN, (1, 0, 0, 0)), (1,))
        self.assertEqual(sign(EVEN, (1, 0, 0, 1)), (0,))
        self.assertEqual(sign(GAPPED, (1, 1, 0, 0, 1)), (1, 1, 0))
        self.assertEqual(sign(GAPPED, (0, 1, 1, 1, 1)), (0, 0, 1))
        self.assertEqual(sign(EMPTY, (1, 0, 1)), (1, 0, 1))
        self.assertEqual(sign(FULL, (1,) * 10), ())

    def test_a_bit_for_each_row_of_the_checks(self):
        for desk in sample_desks() + small_desks():
            rows = desk_of(desk[0], even_words(desk))[1]
            for word in all_words(desk[0])[::1 if desk[0] < 8 else 11]:
                told = sign(desk, word)
                self.assertIs(type(told), tuple)
                self.assertTrue(all(type(bit) is int for bit in told))
                self.assertEqual(told, tuple(0 if even(row, word) else 1 for row in rows))

    def test_the_same_sign_just_if_the_sum_is_in_the_code(self):
        for desk in small_desks() + sample_desks():
            code = code_of(desk[0], desk[1])
            words = all_words(desk[0])
            some = words[::1 if desk[0] < 6 else len(words) // 25] + sorted(code)[:5]
            signs = {word: sign(desk, word) for word in some}
            for one in signs:
                for other in signs:
                    self.assertEqual(signs[one] == signs[other], added(one, other) in code)

    def test_each_tuple_of_so_many_bits_is_the_sign_of_some_word(self):
        for desk in [desk for desk in sample_desks() if desk[0] < 8] + small_desks():
            signs = {sign(desk, word) for word in all_words(desk[0])}
            missing = desk[0] - len(desk[1])
            self.assertEqual(sorted(signs), all_words(missing))

    def test_words_of_the_code_have_noughts(self):
        for desk in sample_desks():
            noughts = (0,) * (desk[0] - len(desk[1]))
            for word in sorted(code_of(desk[0], desk[1]))[::7]:
                self.assertEqual(sign(desk, word), noughts)


class Leaders(unittest.TestCase):
    def test_some_by_hand(self):
        self.assertEqual(leaders(EVEN), [((0,), (0, 0, 0, 0)), ((1,), (0, 0, 0, 1))])
        self.assertEqual(leaders((2, ((1, 1),))), [((0,), (0, 0)), ((1,), (0, 1))])
        self.assertEqual(leaders((3, ((1, 1, 1),))), [
            ((0, 0), (0, 0, 0)), ((0, 1), (0, 1, 0)), ((1, 0), (1, 0, 0)), ((1, 1), (0, 0, 1))])
        self.assertEqual(leaders((1, ())), [((0,), (0,)), ((1,), (1,))])
        self.assertEqual(leaders((1, ((1,),))), [((), (0,))])

    def test_the_first_of_several_of_least_weight(self):
        told = dict(leaders((4, ((1, 1, 1, 1),))))
        self.assertEqual(told[sign((4, ((1, 1, 1, 1),)), (1, 1, 0, 0))], (0, 0, 1, 1))
        self.assertEqual(told[sign((4, ((1, 1, 1, 1),)), (1, 0, 1, 0))], (0, 1, 0, 1))

    def test_found_anew_by_going_through_all_words(self):
        for desk in sample_desks() + small_desks():
            self.assertEqual(leaders(desk), leaders_anew(desk))

    def test_a_rising_list_with_each_sign_once(self):
        for desk in sample_desks() + small_desks():
            told = leaders(desk)
            self.assertIs(type(told), list)
            self.assertEqual(told, sorted(told))
            self.assertEqual([pair[0] for pair in told], all_words(desk[0] - len(desk[1])))
            self.assertEqual({(type(pair), len(pair)) for pair in told}, {(tuple, 2)})
            self.assertEqual({(type(pair[1]), len(pair[1])) for pair in told}, {(tuple, desk[0])})

    def test_each_leader_has_its_sign(self):
        for desk in sample_desks():
            for told, leader in leaders(desk)[::1 if desk[0] < 8 else 13]:
                self.assertEqual(sign(desk, leader), told)

    def test_no_row_and_all_rows(self):
        for size in range(1, 11):
            self.assertEqual(leaders((size, ())), [(word, word) for word in all_words(size)])
            full = (size, tuple(row[:size] for row in FULL[1][:size]))
            self.assertEqual(leaders(full), [((), (0,) * size)])

    def test_lists_are_new_ones_each_time(self):
        for desk in DESKS:
            first = leaders(desk)
            kept = list(first)
            self.assertIsNot(leaders(desk), first)
            first.clear()
            self.assertEqual(leaders(desk), kept)


if __name__ == "__main__":
    unittest.main()
