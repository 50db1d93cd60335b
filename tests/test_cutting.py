import unittest

from paritydesk.checks import checks
from paritydesk.cutting import cut, kept
from tests.helper import DESKS, EVEN, FULL, GAPPED, SEVEN, code_of, holds_just, no_desks, odd_things, refused
from tests.helper import sample_desks, small_desks


def desks_and_places():
    """Each sample desk and each small one of a size of 2 or more, with each of its places."""
    desks = [desk for desk in sample_desks() + small_desks() if desk[0] > 1]
    return [(desk, place) for desk in desks for place in range(desk[0])]


def without(word, place):
    return tuple(bit for at, bit in enumerate(word) if at != place)


class Cut(unittest.TestCase):
    def test_some_by_hand(self):
        self.assertEqual(cut(EVEN, 0), (3, ((1, 0, 0), (0, 1, 0), (0, 0, 1))))
        self.assertEqual(cut(EVEN, 3), (3, ((1, 0, 0), (0, 1, 0), (0, 0, 1))))
        self.assertEqual(cut(GAPPED, 0), (4, ((1, 1, 0, 0), (0, 0, 0, 1))))
        self.assertEqual(cut(GAPPED, 1), (4, ((0, 1, 0, 0), (0, 0, 0, 1))))
        self.assertEqual(cut(GAPPED, 4), (4, ((0, 1, 1, 0),)))
        self.assertEqual(cut((2, ((1, 1),)), 1), (1, ((1,),)))
        self.assertEqual(cut((2, ((1, 0),)), 0), (1, ()))
        self.assertEqual(cut(SEVEN, 6)[0], 6)
        self.assertEqual(len(cut(SEVEN, 6)[1]), 4)

    def test_the_desk_of_the_words_without_the_bit(self):
        for desk, place in desks_and_places():
            words = {without(word, place) for word in code_of(desk[0], desk[1])}
            holds_just(self, cut(desk, place), desk[0] - 1, words)

    def test_checks_of_cut_are_kept_of_checks(self):
        for desk, place in desks_and_places():
            self.assertEqual(checks(cut(desk, place)), kept(checks(desk), place))


class Kept(unittest.TestCase):
    def test_some_by_hand(self):
        self.assertEqual(kept(EVEN, 0), (3, ((1, 0, 1), (0, 1, 1))))
        self.assertEqual(kept(EVEN, 3), (3, ((1, 0, 1), (0, 1, 1))))
        self.assertEqual(kept(GAPPED, 0), (4, ((1, 1, 0, 0), (0, 0, 0, 1))))
        self.assertEqual(kept(GAPPED, 1), (4, ((0, 0, 0, 1),)))
        self.assertEqual(kept(GAPPED, 2), (4, ((0, 0, 0, 1),)))
        self.assertEqual(kept((2, ((1, 1),)), 1), (1, ()))
        self.assertEqual(kept((2, ((1, 0),)), 1), (1, ((1,),)))

    def test_the_desk_of_the_words_with_0_there_without_that_bit(self):
        for desk, place in desks_and_places():
            words = {without(word, place) for word in code_of(desk[0], desk[1]) if word[place] == 0}
            holds_just(self, kept(desk, place), desk[0] - 1, words)

    def test_checks_of_kept_are_cut_of_checks(self):
        for desk, place in desks_and_places():
            self.assertEqual(checks(kept(desk, place)), cut(checks(desk), place))


class Refusals(unittest.TestCase):
    def test_a_place_that_is_none(self):
        for desk in DESKS:
            size = desk[0]
            places = odd_things() + [-size, -size - 1, size, size + 1, 2 * size, 0.0, "0", (0,), [], [0], [1], {0: 0}]
            for place in places:
                refused(self, "NoPlace", cut, desk, place)
                refused(self, "NoPlace", kept, desk, place)

    def test_the_first_place_beyond_each_size(self):
        for desk in sample_desks() + small_desks():
            for place in (-1, desk[0]):
                refused(self, "NoPlace", cut, desk, place)
                refused(self, "NoPlace", kept, desk, place)

    def test_a_desk_of_one_bit(self):
        for desk in ((1, ()), (1, ((1,),))):
            for place in [0, 1, 2] + odd_things():
                refused(self, "NoPlace", cut, desk, place)
                refused(self, "NoPlace", kept, desk, place)

    def test_what_is_no_desk(self):
        for thing in no_desks():
            for place in (0, 1, None, True):
                refused(self, "NoDesk", cut, thing, place)
                refused(self, "NoDesk", kept, thing, place)

    def test_handed_in_stays_and_nothing_is_kept(self):
        place = [0]
        refused(self, "NoPlace", cut, FULL, place)
        refused(self, "NoPlace", kept, FULL, place)
        self.assertEqual(place, [0])
        for call in (cut, kept):
            told = [call(desk, place) for desk, place in desks_and_places()[:200]]
            again = [call(desk, place) for desk, place in reversed(desks_and_places()[:200])]
            self.assertEqual(again[::-1], told)


if __name__ == "__main__":
    unittest.main()
