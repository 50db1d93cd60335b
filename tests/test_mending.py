import unittest
from itertools import combinations

from paritydesk.checks import leaders, sign
from paritydesk.desks import made
from paritydesk.mending import gap, mended, reach
from tests.helper import DESKS, EMPTY, EVEN, FULL, GAPPED, SEVEN, added, all_words, code_of, no_desks, refused
from tests.helper import sample_desks, small_desks

FIVES = (5, ((1, 0, 1, 1, 0), (0, 1, 1, 0, 1)))
EIGHTS = made(8, [row + (sum(row) % 2,) for row in SEVEN[1]])
NINES = made(9, [(1, 1, 1, 1, 1, 1, 0, 0, 0), (0, 0, 0, 1, 1, 1, 1, 1, 1)])
TENS = made(10, [(1, 0, 0, 1, 1, 1, 1, 0, 0, 0), (0, 1, 0, 1, 1, 0, 0, 1, 1, 0), (0, 0, 1, 1, 0, 1, 0, 1, 0, 1)])
WIDE = [FIVES, EIGHTS, NINES, TENS]


def distance(one, other):
    return sum(added(one, other))


def some_words(size):
    return all_words(size)[::1 if size < 7 else 2 ** size // 40]


def first_lightest(words):
    return sorted(words, key=lambda word: (sum(word), word))[0]


class Mended(unittest.TestCase):
    def test_some_by_hand(self):
        self.assertEqual(mended(SEVEN, (1, 0, 1, 1, 0, 1, 1)), (1, 0, 1, 1, 0, 1, 0))
        self.assertEqual(mended(SEVEN, (0, 0, 0, 0, 0, 0, 1)), (0,) * 7)
        self.assertEqual(mended((3, ((1, 1, 1),)), (1, 0, 1)), (1, 1, 1))
        self.assertEqual(mended((3, ((1, 1, 1),)), (0, 0, 1)), (0, 0, 0))
        self.assertEqual(mended(GAPPED, (1, 1, 1, 1, 1)), (0, 1, 1, 0, 1))
        self.assertEqual(mended((1, ()), (1,)), (0,))
        self.assertEqual(mended((1, ((1,),)), (1,)), (1,))

    def test_of_several_as_near_the_one_by_the_first_leader(self):
        self.assertEqual(mended(EVEN, (1, 0, 0, 0)), (1, 0, 0, 1))
        self.assertEqual(mended((2, ((1, 1),)), (1, 0)), (1, 1))
        self.assertEqual(mended((2, ((1, 1),)), (0, 1)), (0, 0))
        self.assertEqual(mended((4, ((1, 1, 1, 1),)), (1, 1, 0, 0)), (1, 1, 1, 1))
        self.assertEqual(mended((4, ((1, 1, 1, 1),)), (0, 0, 1, 1)), (0, 0, 0, 0))
        self.assertEqual(mended(GAPPED, (0, 1, 0, 0, 0)), (0, 1, 1, 0, 0))

    def test_by_adding_the_leader_of_its_sign(self):
        for desk in sample_desks() + small_desks() + WIDE:
            table = dict(leaders(desk))
            for word in some_words(desk[0]):
                self.assertEqual(mended(desk, word), added(word, table[sign(desk, word)]))

    def test_found_anew_by_going_through_all_words(self):
        for desk in sample_desks() + small_desks() + WIDE:
            code = code_of(desk[0], desk[1])
            for word in some_words(desk[0])[::1 if desk[0] < 6 else 4]:
                alike = [other for other in all_words(desk[0]) if added(word, other) in code]
                self.assertEqual(mended(desk, word), added(word, first_lightest(alike)))

    def test_a_word_of_the_code_than_which_none_is_nearer(self):
        for desk in sample_desks() + small_desks() + WIDE:
            code = code_of(desk[0], desk[1])
            for word in some_words(desk[0]):
                told = mended(desk, word)
                self.assertIs(type(told), tuple)
                self.assertEqual({type(bit) for bit in told}, {int})
                self.assertIn(told, code)
                self.assertEqual(distance(word, told), min(distance(word, known) for known in code))

    def test_mended_again_it_stays(self):
        for desk in sample_desks() + small_desks() + WIDE:
            for word in some_words(desk[0])[::3]:
                told = mended(desk, word)
                self.assertEqual(mended(desk, told), told)

    def test_words_of_the_code_stay(self):
        for desk in sample_desks() + small_desks() + WIDE:
            code = sorted(code_of(desk[0], desk[1]))
            for word in code[::1 if len(code) < 65 else 17]:
                self.assertEqual(mended(desk, word), word)

    def test_fewer_than_half_as_many_bits_as_the_gap_were_changed(self):
        alike = [(size, ((1,) * size,)) for size in range(1, 11)]
        most = 0
        for desk in WIDE + alike + list(DESKS) + [desk for desk in sample_desks() if len(desk[1]) < 6]:
            size = desk[0]
            code = sorted(code_of(size, desk[1]))
            least = min([sum(word) for word in code if 1 in word], default=0)
            for changed in [number for number in range(size) if 2 * number < least]:
                most = max(most, changed)
                for places in combinations(range(size), changed):
                    blot = tuple(1 if place in places else 0 for place in range(size))
                    for word in code[::1 if len(code) < 17 else 7]:
                        self.assertEqual(mended(desk, added(word, blot)), word)
        self.assertEqual(most, 4)

    def test_no_row_and_all_rows(self):
        for word in all_words(10)[::9]:
            self.assertEqual(mended((10, ()), word), (0,) * 10)
            self.assertEqual(mended(FULL, word), word)

    def test_nothing_is_kept(self):
        told = [mended(desk, (1,) * desk[0]) for desk in DESKS]
        again = [mended(desk, (1,) * desk[0]) for desk in reversed(DESKS)]
        self.assertEqual(again[::-1], told)


class Gap(unittest.TestCase):
    def test_some_by_hand(self):
        told = [gap(desk) for desk in (EVEN, SEVEN, GAPPED, FULL, FIVES, EIGHTS, NINES, TENS)]
        self.assertEqual(told, [2, 3, 1, 1, 3, 4, 6, 5])
        for size in range(1, 11):
            self.assertEqual(gap((size, ((1,) * size,))), size)

    def test_none_where_there_is_but_the_word_of_noughts(self):
        for size in range(1, 11):
            self.assertIsNone(gap((size, ())))

    def test_found_anew_by_going_through_all_words(self):
        for desk in sample_desks() + small_desks() + WIDE:
            code = code_of(desk[0], desk[1])
            weights = sorted(sum(word) for word in all_words(desk[0]) if word in code and 1 in word)
            self.assertEqual(gap(desk), weights[0] if weights else None)
            self.assertIs(type(gap(desk)), int if weights else type(None))


class Reach(unittest.TestCase):
    def test_some_by_hand(self):
        told = [reach(desk) for desk in (EVEN, SEVEN, GAPPED, FULL, EMPTY, FIVES, EIGHTS)]
        self.assertEqual(told, [1, 1, 3, 0, 3, 2, 2])
        for size in range(1, 11):
            self.assertEqual(reach((size, ())), size)
            self.assertEqual(reach((size, ((1,) * size,))), size // 2)

    def test_found_anew_by_going_through_all_words(self):
        for desk in sample_desks() + small_desks() + WIDE:
            code = code_of(desk[0], desk[1])
            # As far as a word can be from the code; one word for each bunch that differs by words of the code.
            places = [row.index(1) for row in desk[1]]
            words = [word for word in all_words(desk[0]) if not any(word[place] for place in places)]
            farthest = max(min(distance(word, known) for known in code) for word in words)
            self.assertEqual(reach(desk), farthest)
            self.assertIs(type(reach(desk)), int)

    def test_what_is_no_desk(self):
        for thing in no_desks():
            refused(self, "NoDesk", mended, thing, (1, 0))
            refused(self, "NoDesk", gap, thing)
            refused(self, "NoDesk", reach, thing)


if __name__ == "__main__":
    unittest.main()
