import unittest

from paritydesk.words import apart, is_word, meet_evenly, none, plus, weight
from tests.helper import Prickly, all_words, odd_bits, odd_things


def pairs():
    """All pairs of words of small sizes, and for each greater size some with all others."""
    found = []
    for size in range(1, 11):
        words = all_words(size)
        some = words if size < 6 else words[::len(words) // 5]
        found.extend((one, other) for one in some for other in words)
    return found


class IsWord(unittest.TestCase):
    def test_all_words_of_all_sizes(self):
        for size in range(1, 11):
            for word in all_words(size):
                self.assertIs(is_word(word, size), True)

    def test_another_size(self):
        for length in range(1, 11):
            for size in range(1, 11):
                if size != length:
                    self.assertIs(is_word((1,) * length, size), False)

    def test_things_of_other_kinds(self):
        for thing in odd_things() + [[0, 1], [1], (0, 1, 0), ((0, 1),), {0: 0, 1: 1}, "01", range(2)]:
            for size in (1, 2):
                self.assertIs(is_word(thing, size), False)

    def test_a_bit_of_another_kind_at_each_place(self):
        for size in range(1, 11):
            for bit in odd_bits():
                for place in range(size):
                    word = (0,) * place + (bit,) + (1,) * (size - place - 1)
                    self.assertIs(is_word(word, size), False)

    def test_no_word_has_0_or_11_bits(self):
        self.assertIs(is_word((), 0), False)
        self.assertIs(is_word((0,) * 11, 11), False)
        self.assertIs(is_word((0,) * 11, 10), False)
        self.assertIs(is_word((), 1), False)

    def test_no_word_has_a_size_that_is_no_number(self):
        self.assertIs(is_word((1,), True), False)
        self.assertIs(is_word((), False), False)
        for size in (None, "1", 1.0, (1,), [1], Prickly()):
            self.assertIs(is_word((1,), size), False)


class Sums(unittest.TestCase):
    def test_some_by_hand(self):
        self.assertEqual(plus((0, 0, 1, 1), (0, 1, 0, 1)), (0, 1, 1, 0))
        self.assertEqual(plus((1,), (1,)), (0,))
        self.assertEqual(plus((1,) * 10, (0, 1) * 5), (1, 0) * 5)

    def test_a_1_just_where_one_of_the_two_has(self):
        for one, other in pairs():
            total = plus(one, other)
            self.assertTrue(is_word(total, len(one)))
            for place, bit in enumerate(total):
                self.assertEqual(bit, 1 if one[place] != other[place] else 0)

    def test_handed_in_stays(self):
        one, other = (1, 0, 1), (1, 1, 0)
        plus(one, other)
        self.assertEqual((one, other), ((1, 0, 1), (1, 1, 0)))


class Weights(unittest.TestCase):
    def test_some_by_hand(self):
        self.assertEqual(weight((0,)), 0)
        self.assertEqual(weight((1,)), 1)
        self.assertEqual(weight((1, 0, 1, 1, 0)), 3)
        self.assertEqual(weight((1,) * 10), 10)
        self.assertEqual(apart((1, 0, 1, 1), (0, 0, 1, 0)), 2)
        self.assertEqual(apart((1,) * 10, (0,) * 10), 10)

    def test_the_weight_is_how_many_ones(self):
        for size in range(1, 11):
            for word in all_words(size):
                self.assertEqual(weight(word), word.count(1))
                self.assertIs(type(weight(word)), int)

    def test_as_far_apart_as_places_differ(self):
        for one, other in pairs():
            differing = [place for place in range(len(one)) if one[place] != other[place]]
            self.assertEqual(apart(one, other), len(differing))
            self.assertIs(type(apart(one, other)), int)


class Meeting(unittest.TestCase):
    def test_some_by_hand(self):
        self.assertIs(meet_evenly((1,), (1,)), False)
        self.assertIs(meet_evenly((1,), (0,)), True)
        self.assertIs(meet_evenly((0,), (0,)), True)
        self.assertIs(meet_evenly((1, 1, 0), (1, 1, 1)), True)
        self.assertIs(meet_evenly((1, 1, 1), (1, 1, 1)), False)
        self.assertIs(meet_evenly((1,) * 10, (1,) * 10), True)

    def test_even_where_both_have_a_1(self):
        for one, other in pairs():
            both = [place for place in range(len(one)) if one[place] == 1 and other[place] == 1]
            self.assertIs(meet_evenly(one, other), len(both) in (0, 2, 4, 6, 8, 10))


class Noughts(unittest.TestCase):
    def test_the_word_of_noughts(self):
        self.assertEqual(none(1), (0,))
        self.assertEqual(none(4), (0, 0, 0, 0))
        for size in range(1, 11):
            self.assertTrue(is_word(none(size), size))
            self.assertEqual(weight(none(size)), 0)
            for word in all_words(size):
                self.assertEqual(plus(word, none(size)), word)
                self.assertEqual(plus(word, word), none(size))


if __name__ == "__main__":
    unittest.main()
