import unittest
from itertools import permutations, product

from paritydesk.desks import checked, count, has, heads, made, words_of
from tests.helper import DESKS, EMPTY, EVEN, FULL, GAPPED, SEVEN, added, all_words, code_of, no_desks, odd_bits
from tests.helper import odd_things, refused, sample_lists, things_not_in, told_as_a_desk


def with_one_row_changed(desk):
    """Desks with a row twice, turned about, added to another, or blotted."""
    size, rows = desk
    found = [(size, rows + (row,)) for row in rows] + [(size, (row,) + rows) for row in rows]
    found += [(size, rows[:at] + ((0,) * size,) + rows[at:]) for at in range(len(rows) + 1)]
    for at, by in permutations(range(len(rows)), 2):
        turned = list(rows)
        turned[at], turned[by] = rows[by], rows[at]
        summed = list(rows)
        summed[at] = added(rows[at], rows[by])
        found += [(size, tuple(turned)), (size, tuple(summed))]
    return found


class Made(unittest.TestCase):
    def test_some_by_hand(self):
        self.assertEqual(made(4, [(1, 1, 0, 0), (0, 1, 1, 0), (0, 0, 1, 1)]), EVEN)
        self.assertEqual(made(5, [(0, 1, 1, 0, 1), (0, 1, 1, 0, 0)]), GAPPED)
        self.assertEqual(made(3, [(1, 1, 1)]), (3, ((1, 1, 1),)))
        self.assertEqual(made(2, [(1, 1), (1, 0)]), (2, ((1, 0), (0, 1))))
        self.assertEqual(made(3, [(0, 0, 1), (0, 1, 0), (1, 0, 0)]), (3, ((1, 0, 0), (0, 1, 0), (0, 0, 1))))

    def test_a_desk_as_point_3_tells_it_of_the_least_code(self):
        for size, words in sample_lists():
            desk = made(size, words)
            self.assertIs(type(desk), tuple)
            self.assertIs(type(desk[1]), tuple)
            self.assertEqual(desk[0], size)
            self.assertTrue(told_as_a_desk(desk))
            self.assertEqual(code_of(size, desk[1]), code_of(size, words))

    def test_one_desk_for_each_code(self):
        for size, codes in ((1, 2), (2, 5), (3, 16)):
            desks = {}
            for length in range(size + 2):
                for words in product(all_words(size), repeat=length):
                    code = frozenset(code_of(size, words))
                    desk = made(size, list(words))
                    self.assertEqual(desks.setdefault(code, desk), desk)
            self.assertEqual(len(desks), codes)
            self.assertEqual(len(set(desks.values())), codes)

    def test_the_same_code_told_by_other_words(self):
        for size, words in sample_lists():
            desk = made(size, words)
            noughts = (0,) * size
            self.assertEqual(made(size, words[::-1]), desk)
            self.assertEqual(made(size, words[3:] + words[:3]), desk)
            self.assertEqual(made(size, list(desk[1])), desk)
            self.assertEqual(made(size, ([noughts] + words[:9] + [noughts] + words[9:])[:20]),
                             made(size, words[:18]))
            summed = list(words)
            for at in range(1, len(words)):
                summed[at] = added(summed[at], summed[at - 1])
            self.assertEqual(made(size, summed), desk)
            self.assertEqual(made(size, summed[::-1]), desk)

    def test_all_orders_of_four_words(self):
        words = [(1, 1, 0, 1, 0), (0, 1, 1, 1, 1), (1, 0, 1, 1, 0), (1, 1, 0, 0, 1)]
        desks = {made(5, list(turned)) for turned in permutations(words)}
        self.assertEqual(len(desks), 1)

    def test_no_words_and_noughts_alone(self):
        for size in range(1, 11):
            self.assertEqual(made(size, []), (size, ()))
            self.assertEqual(made(size, [(0,) * size]), (size, ()))
            self.assertEqual(made(size, [(0,) * size] * 20), (size, ()))

    def test_sizes_1_and_10(self):
        self.assertEqual(made(1, [(1,)]), (1, ((1,),)))
        self.assertEqual(made(1, [(0,), (1,), (1,)]), (1, ((1,),)))
        self.assertEqual(made(10, [(1,) * 10]), (10, ((1,) * 10,)))
        self.assertEqual(made(10, [(1,) * left + (0,) * (10 - left) for left in range(1, 11)]), FULL)

    def test_20_words_are_taken_and_21_are_not(self):
        words = [(1,) * left + (0,) * (10 - left) for left in range(1, 11)] * 2
        self.assertEqual(len(words), 20)
        self.assertEqual(made(10, words), FULL)
        self.assertIsNone(refused(self, "BadWords", made, 10, words + [(1,) * 10]).at)
        self.assertIsNone(refused(self, "BadWords", made, 10, [(0,) * 10] * 21).at)
        self.assertIsNone(refused(self, "BadWords", made, 10, [None] * 21).at)
        self.assertIsNone(refused(self, "BadWords", made, 10, words + [None]).at)
        self.assertIsNone(refused(self, "BadWords", made, 1, [(1,)] * 1000).at)

    def test_no_size(self):
        for size in odd_things() + [0, "3", (3,), [3]]:
            for words in ([], [(1,)], [None], [(1,) * 11], [()], None):
                self.assertIsNone(refused(self, "BadWords", made, size, words).at)

    def test_no_list(self):
        things = odd_things() + [((1, 0),), {(1, 0): True}, {(1, 0)}, iter([(1, 0)]), (1, 0), (2, ((1, 0),)), 0, 1]
        for thing in things:
            self.assertIsNone(refused(self, "BadWords", made, 2, thing).at)

    def test_what_is_no_word_at_each_place(self):
        bad = odd_things() + [(1,), (1, 0, 0), [1, 0], [0, 1], (2, ()), 0, 1]
        bad += [(bit, 0) for bit in odd_bits()] + [(1, bit) for bit in odd_bits()]
        for thing in bad:
            for length in (1, 2, 4):
                for place in range(length):
                    words = [(1, 0)] * place + [thing] + [(0, 1)] * (length - place - 1)
                    self.assertEqual(refused(self, "BadWords", made, 2, words).at, place)

    def test_the_first_of_several_that_are_no_word(self):
        self.assertEqual(refused(self, "BadWords", made, 2, [(1, 0), None, (1,), "10"]).at, 1)
        self.assertEqual(refused(self, "BadWords", made, 2, [None, (1, 0), None]).at, 0)
        self.assertEqual(refused(self, "BadWords", made, 2, [(1, 0)] * 19 + [(1, True)]).at, 19)
        self.assertEqual(refused(self, "BadWords", made, 3, [(1, 0)] * 20).at, 0)
        for place in range(20):
            words = [(0, 1)] * place + [[0, 1]] * (20 - place)
            at = refused(self, "BadWords", made, 2, words).at
            self.assertEqual(at, place)
            self.assertIs(type(at), int)

    def test_handed_in_stays_and_nothing_is_kept(self):
        for size, words in sample_lists():
            before = list(words)
            desk = made(size, words)
            self.assertEqual(words, before)
            words.append((1,) * size)
            words[:] = words[:1]
            self.assertEqual(made(size, before), desk)
        words = [(1, 0), [1, 0], (0, 1)]
        refused(self, "BadWords", made, 2, words)
        self.assertEqual(words, [(1, 0), [1, 0], (0, 1)])


class Checked(unittest.TestCase):
    def test_a_desk_is_told_as_it_is(self):
        for desk in DESKS:
            self.assertEqual(checked(desk), desk)
        for size, words in sample_lists():
            desk = made(size, words)
            self.assertEqual(checked(desk), desk)

    def test_what_is_no_desk(self):
        for thing in no_desks():
            refused(self, "NoDesk", checked, thing)

    def test_rows_twice_turned_added_or_of_noughts(self):
        for desk in (EVEN, SEVEN, GAPPED, FULL):
            for thing in with_one_row_changed(desk):
                refused(self, "NoDesk", checked, thing)

    def test_each_bit_of_another_kind(self):
        for size, rows in (EVEN, GAPPED):
            for at, place in product(range(len(rows)), range(size)):
                for bit in odd_bits():
                    row = rows[at][:place] + (bit,) + rows[at][place + 1:]
                    refused(self, "NoDesk", checked, (size, rows[:at] + (row,) + rows[at + 1:]))
                listed = rows[:at] + (list(rows[at]),) + rows[at + 1:]
                refused(self, "NoDesk", checked, (size, listed))

    def test_each_bit_changed(self):
        for size, rows in (EVEN, SEVEN, GAPPED, FULL):
            for at, place in product(range(len(rows)), range(size)):
                row = rows[at][:place] + (1 - rows[at][place],) + rows[at][place + 1:]
                thing = (size, rows[:at] + (row,) + rows[at + 1:])
                if told_as_a_desk(thing):
                    self.assertEqual(checked(thing), thing)
                else:
                    refused(self, "NoDesk", checked, thing)

    def test_just_the_desks_of_all_tuples_of_words(self):
        for size, codes in ((1, 2), (2, 5), (3, 16)):
            taken = set()
            for length in range(size + 2):
                for rows in product(all_words(size), repeat=length):
                    if told_as_a_desk((size, rows)):
                        taken.add(checked((size, rows)))
                    else:
                        refused(self, "NoDesk", checked, (size, rows))
            self.assertEqual(len(taken), codes)


class LookedUp(unittest.TestCase):
    def test_heads(self):
        self.assertEqual(heads(EVEN), [0, 1, 2])
        self.assertEqual(heads(SEVEN), [0, 1, 2, 3])
        self.assertEqual(heads(GAPPED), [1, 4])
        self.assertEqual(heads(FULL), list(range(10)))
        self.assertEqual(heads(EMPTY), [])
        for size, words in sample_lists():
            desk = made(size, words)
            told = heads(desk)
            self.assertIs(type(told), list)
            self.assertEqual(told, sorted(set(told)))
            self.assertEqual(told, [row.index(1) for row in desk[1]])

    def test_count(self):
        self.assertEqual([count(desk) for desk in (EVEN, SEVEN, GAPPED, FULL, EMPTY)], [8, 16, 4, 1024, 1])
        for size, words in sample_lists():
            told = count(made(size, words))
            self.assertEqual(told, len(code_of(size, words)))
            self.assertIs(type(told), int)

    def test_words_of(self):
        self.assertEqual(words_of(EMPTY), [(0, 0, 0)])
        self.assertEqual(words_of((1, ((1,),))), [(0,), (1,)])
        self.assertEqual(words_of(GAPPED), [(0, 0, 0, 0, 0), (0, 0, 0, 0, 1), (0, 1, 1, 0, 0), (0, 1, 1, 0, 1)])
        self.assertEqual(words_of(FULL), all_words(10))
        for size, words in sample_lists():
            told = words_of(made(size, words))
            self.assertIs(type(told), list)
            self.assertEqual(told, sorted(code_of(size, words)))

    def test_has_the_words_of_the_code_and_no_others(self):
        for size, words in sample_lists():
            desk = made(size, words)
            code = code_of(size, words)
            for word in all_words(size) if size < 8 else all_words(size)[::7] + sorted(code)[::5]:
                self.assertIs(has(desk, word), word in code)

    def test_has_no_thing_of_another_kind(self):
        for desk in DESKS:
            for thing in things_not_in(desk):
                self.assertIs(has(desk, thing), False)

    def test_what_is_no_desk_is_refused_here_too(self):
        for thing in no_desks():
            refused(self, "NoDesk", heads, thing)
            refused(self, "NoDesk", count, thing)
            refused(self, "NoDesk", words_of, thing)
            refused(self, "NoDesk", has, thing, (1, 0))
            refused(self, "NoDesk", has, thing, None)

    def test_lists_are_new_ones_each_time(self):
        for call in (heads, words_of):
            for desk in DESKS:
                first = call(desk)
                kept = list(first)
                self.assertIsNot(call(desk), first)
                first.append("more")
                first.reverse()
                self.assertEqual(call(desk), kept)

    def test_a_desk_stays_as_it_was(self):
        desk = (4, ((1, 0, 0, 1), (0, 1, 0, 1), (0, 0, 1, 1)))
        for call in (checked, heads, count, words_of):
            call(desk)
            self.assertEqual(desk, EVEN)
        thing = [1, 0, 0, 1]
        has(desk, thing)
        self.assertEqual(thing, [1, 0, 0, 1])
        self.assertEqual(desk, EVEN)


if __name__ == "__main__":
    unittest.main()
