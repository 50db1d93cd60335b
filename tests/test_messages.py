import unittest
from itertools import product

from paritydesk.messages import put, told_back
from tests.helper import DESKS, EMPTY, EVEN, FULL, GAPPED, SEVEN, added, all_words, code_of, no_desks, refused
from tests.helper import sample_desks, small_desks, things_not_in


def messages_of(desk):
    return list(product((0, 1), repeat=len(desk[1])))


def sum_of_rows(desk, message):
    total = (0,) * desk[0]
    for place, bit in enumerate(message):
        if bit == 1:
            total = added(total, desk[1][place])
    return total


class Put(unittest.TestCase):
    def test_some_by_hand(self):
        self.assertEqual(put(EVEN, (1, 0, 1)), (1, 0, 1, 0))
        self.assertEqual(put(EVEN, (1, 1, 1)), (1, 1, 1, 1))
        self.assertEqual(put(EVEN, (0, 0, 0)), (0, 0, 0, 0))
        self.assertEqual(put(SEVEN, (1, 0, 1, 1)), (1, 0, 1, 1, 0, 1, 0))
        self.assertEqual(put(GAPPED, (1, 0)), (0, 1, 1, 0, 0))
        self.assertEqual(put(GAPPED, (0, 1)), (0, 0, 0, 0, 1))
        self.assertEqual(put((1, ((1,),)), (1,)), (1,))

    def test_the_sum_of_the_rows_with_a_1(self):
        for desk in sample_desks() + small_desks():
            for message in messages_of(desk):
                word = put(desk, message)
                self.assertEqual(word, sum_of_rows(desk, message))
                self.assertIs(type(word), tuple)
                self.assertEqual({type(bit) for bit in word}, {int})

    def test_the_message_stands_at_the_heads(self):
        for desk in sample_desks() + small_desks():
            places = [row.index(1) for row in desk[1]]
            for message in messages_of(desk):
                word = put(desk, message)
                self.assertEqual(tuple(word[place] for place in places), message)

    def test_the_messages_are_put_to_the_words_of_the_code_each_once(self):
        for desk in sample_desks():
            words = [put(desk, message) for message in messages_of(desk)]
            self.assertEqual(sorted(words), sorted(code_of(desk[0], desk[1])))

    def test_no_row(self):
        for size in range(1, 11):
            self.assertEqual(put((size, ()), ()), (0,) * size)

    def test_as_many_rows_as_the_size(self):
        for message in all_words(10):
            self.assertEqual(put(FULL, message), message)

    def test_what_is_no_desk(self):
        for thing in no_desks():
            refused(self, "NoDesk", put, thing, (1, 0))


class ToldBack(unittest.TestCase):
    def test_some_by_hand(self):
        self.assertEqual(told_back(EVEN, (1, 0, 1, 0)), (1, 0, 1))
        self.assertEqual(told_back(SEVEN, (1, 0, 1, 1, 0, 1, 0)), (1, 0, 1, 1))
        self.assertEqual(told_back(GAPPED, (0, 1, 1, 0, 1)), (1, 1))
        self.assertEqual(told_back(GAPPED, (0, 0, 0, 0, 1)), (0, 1))

    def test_each_message_is_told_back(self):
        for desk in sample_desks() + small_desks():
            for message in messages_of(desk):
                told = told_back(desk, put(desk, message))
                self.assertEqual(told, message)
                self.assertIs(type(told), tuple)

    def test_each_word_is_told_back_to_a_message_that_is_put_to_it(self):
        for desk in sample_desks() + small_desks():
            for word in code_of(desk[0], desk[1]):
                message = told_back(desk, word)
                self.assertEqual(len(message), len(desk[1]))
                self.assertEqual(put(desk, message), word)

    def test_a_word_that_is_not_in_the_code(self):
        for desk in sample_desks() + small_desks():
            code = code_of(desk[0], desk[1])
            for word in [word for word in all_words(desk[0]) if word not in code][::1 if desk[0] < 7 else 9]:
                refused(self, "NotIn", told_back, desk, word)

    def test_a_thing_that_is_no_word(self):
        for desk in DESKS:
            for thing in things_not_in(desk):
                refused(self, "NotIn", told_back, desk, thing)

    def test_some_things_that_are_no_word(self):
        for thing in ([1, 0, 0, 1], (1, 0, 0, 1, 0), (1, 0, 0), (), (1, 0, 0, "1"), (1, 0, 0, True),
                      (True, False, False, True), (1, 0, 0, 1.0), (1, 0, 0, None), (3, 0, 0, 1), None, "1001", 9):
            refused(self, "NotIn", told_back, EVEN, thing)

    def test_no_row(self):
        self.assertEqual(told_back(EMPTY, (0, 0, 0)), ())
        for word in all_words(3)[1:]:
            refused(self, "NotIn", told_back, EMPTY, word)
        for size in range(1, 11):
            self.assertEqual(told_back((size, ()), (0,) * size), ())
            refused(self, "NotIn", told_back, (size, ()), (0,) * (size - 1) + (1,))
            refused(self, "NotIn", told_back, (size, ()), ())

    def test_as_many_rows_as_the_size(self):
        for word in all_words(10):
            self.assertEqual(told_back(FULL, word), word)
        refused(self, "NotIn", told_back, FULL, (0,) * 9)
        refused(self, "NotIn", told_back, FULL, (0,) * 11)

    def test_what_is_no_desk(self):
        for thing in no_desks():
            refused(self, "NoDesk", told_back, thing, (1, 0))
            refused(self, "NoDesk", told_back, thing, None)

    def test_handed_in_stays_and_nothing_is_kept(self):
        thing = [1, 0, 1, 0]
        refused(self, "NotIn", told_back, EVEN, thing)
        self.assertEqual(thing, [1, 0, 1, 0])
        self.assertEqual(told_back(EVEN, (1, 0, 1, 0)), (1, 0, 1))
        self.assertEqual(told_back((4, ((1, 0, 1, 0),)), (1, 0, 1, 0)), (1,))
        self.assertEqual(told_back(EVEN, (1, 0, 1, 0)), (1, 0, 1))


if __name__ == "__main__":
    unittest.main()
