import re
import unittest
from itertools import product

from paritydesk.texts import read, shown
from tests.helper import DESKS, EMPTY, EVEN, FULL, GAPPED, SEVEN, no_desks, odd_things, refused, sample_desks
from tests.helper import small_desks, told_as_a_desk


def desk_told(text):
    """The desk that a text tells, None where it tells none: by its outer form, then by point 3."""
    if re.fullmatch("([1-9]|10):( [01]+)*", text) is None:
        return None
    front, rest = text.split(":")
    rows = tuple(tuple(int(figure) for figure in part) for part in rest.split(" ")[1:])
    desk = (int(front), rows)
    return desk if all(len(row) == desk[0] for row in rows) and told_as_a_desk(desk) else None


def one_sign_off(text):
    """The text with a sign left out, doubled, another one, one more, or two neighbours turned about."""
    found = []
    for at in range(len(text) + 1):
        found += [text[:at] + sign + text[at:] for sign in "0123:; \n\t-+_x"]
    for at, sign in enumerate(text):
        found += [text[:at] + text[at + 1:], text[:at] + sign + text[at:]]
        found += [text[:at] + other + text[at + 1:] for other in "0123456789:; ,\n\t-+_xIO"]
        found += [text[:at] + text[at + 1:at + 2] + sign + text[at + 2:]]
    return [other for other in found if other != text]


class Shown(unittest.TestCase):
    def test_some_by_hand(self):
        self.assertEqual(shown(EVEN), "4: 1001 0101 0011")
        self.assertEqual(shown(GAPPED), "5: 01100 00001")
        self.assertEqual(shown(SEVEN), "7: 1000011 0100101 0010110 0001111")
        self.assertEqual(shown(EMPTY), "3:")
        self.assertEqual(shown((1, ())), "1:")
        self.assertEqual(shown((1, ((1,),))), "1: 1")
        self.assertEqual(shown((10, ())), "10:")
        self.assertEqual(shown((10, ((1,) * 10,))), "10: 1111111111")

    def test_size_colon_and_a_blank_and_figures_for_each_row(self):
        for desk in sample_desks() + small_desks():
            rows = ["".join("1" if bit == 1 else "0" for bit in row) for row in desk[1]]
            told = shown(desk)
            self.assertIs(type(told), str)
            self.assertEqual(told, str(desk[0]) + ":" + "".join(" " + row for row in rows))

    def test_one_text_for_each_desk(self):
        desks = set(sample_desks() + small_desks())
        self.assertEqual(len({shown(desk) for desk in desks}), len(desks))

    def test_what_is_no_desk(self):
        for thing in no_desks():
            refused(self, "NoDesk", shown, thing)


class Read(unittest.TestCase):
    def test_some_by_hand(self):
        self.assertEqual(read("4: 1001 0101 0011"), EVEN)
        self.assertEqual(read("3:"), EMPTY)
        self.assertEqual(read("1:"), (1, ()))
        self.assertEqual(read("1: 1"), (1, ((1,),)))
        self.assertEqual(read("10:"), (10, ()))
        self.assertEqual(read("10: 1111111111"), (10, ((1,) * 10,)))

    def test_back_to_the_same_desk(self):
        for desk in sample_desks() + small_desks():
            told = read(shown(desk))
            self.assertEqual(told, desk)
            self.assertEqual([type(told), type(told[0]), type(told[1])], [tuple, int, tuple])
            self.assertEqual({type(row) for row in told[1]} - {tuple}, set())
            self.assertEqual({type(bit) for row in told[1] for bit in row} - {int}, set())

    def judged(self, text):
        """See that a text is read just if it tells a desk; whether it does."""
        desk = desk_told(text)
        if desk is None:
            refused(self, "BadText", read, text)
        else:
            self.assertEqual(read(text), desk)
        return desk is not None

    def test_all_short_texts(self):
        told = []
        for length in range(7):
            texts = ["".join(signs) for signs in product("012: ", repeat=length)]
            told += [text for text in texts if self.judged(text)]
        self.assertEqual(told, ["1:", "2:", "10:", "1: 1", "2: 01", "2: 10", "2: 11"])

    def test_one_sign_off(self):
        told = 0
        seen = 0
        for desk in list(DESKS) + sample_desks()[::4] + small_desks()[::3]:
            for text in one_sign_off(shown(desk)):
                told += self.judged(text)
                seen += 1
        self.assertGreater(told, 9)
        self.assertGreater(seen, 999)

    def test_rows_turned_about(self):
        for desk in sample_desks() + small_desks():
            parts = shown(desk).split(" ")
            for at in range(2, len(parts)):
                turned = parts[:at - 1] + [parts[at], parts[at - 1]] + parts[at + 1:]
                refused(self, "BadText", read, " ".join(turned))

    def test_rows_twice_and_rows_that_are_none(self):
        for text in ("2: 10 10", "2: 11 01", "2: 10 11", "2: 00", "2: 10 00", "2: 00 10", "2: 10 01 00", "1: 0",
                     "1: 1 1", "3: 110 010", "3: 101 001", "10: " + "0" * 10):
            refused(self, "BadText", read, text)

    def test_another_size(self):
        for desk in sample_desks():
            rest = shown(desk).partition(":")[2]
            for size in range(-1, 13):
                if size != desk[0] and (desk[1] or not 1 <= size <= 10):
                    refused(self, "BadText", read, str(size) + ":" + rest)

    def test_sizes_0_and_11_and_beyond(self):
        for text in ("0:", "11:", "0: 0", "0: 1", "0: ", "11: " + "1" * 11, "12:", "100:", "1" * 5000 + ":", "-1:", ":",
                     " :", ": 1", "01:", "001:", "+1:", "-0:", "1.0:", "1_0:", "1 0:", "x:", "0x1:", "one:", "1e0:"):
            refused(self, "BadText", read, text)

    def test_a_size_with_something_before_it(self):
        for desk in DESKS:
            for front in ("0", "00", "+", "-", " ", "\n", "\t", "_", "1_", ":", "x", "\ufeff", "\u200b", "\x00"):
                refused(self, "BadText", read, front + shown(desk))

    def test_blanks_and_lines(self):
        for desk in DESKS:
            text = shown(desk)
            for other in (" " + text, text + " ", text + "  ", text + "\n", "\n" + text, text + "\r\n", text + "\t",
                          text + "\x00", text + "\n" + text, text + " " + text, text + "\n3:", text.replace(":", " :"),
                          text.replace(":", ": "), text.replace(":", "::"), text.replace(":", ""), text + ":"):
                refused(self, "BadText", read, other)
            if desk[1]:
                for blank in ("", "  ", "\t", "\n", "\r", "\x0b", "\x1c", "\u00a0", "\u2003", "\u3000", "_", ",", ", "):
                    refused(self, "BadText", read, text.replace(" ", blank))
                    refused(self, "BadText", read, text.replace(" ", blank, 1))

    def test_figures_that_are_no_0_or_1(self):
        for desk in DESKS:
            if desk[1]:
                front, rest = shown(desk).split(":")
                for figure in ("2", "9", "\u0661", "\uff11", "\u00b9", "\u2081", "\U0001d7cf", "I", "l", "True", "-1"):
                    refused(self, "BadText", read, front + ":" + rest.replace("1", figure))
                    refused(self, "BadText", read, front + ":" + rest.replace("1", figure, 1))
        for text in ("\u0661: 1", "\uff11:", "\u00b9: 1", "1\uff1a", "1\uff1a 1", "\u0661\u0660:", "1: \u0661",
                     "1: \uff11"):
            refused(self, "BadText", read, text)

    def test_the_empty_text_and_texts_of_other_forms(self):
        for text in ("", " ", "\n", ":", "3", "100", "3 100", "3; 100", "(3, ())", "[3]", "None", "3:100", "3: 10 0",
                     "3: 1000", "3: 10", "3: 100 ", "3: 100 1", "3: 100 0100", "3: 100,010", "3: 1 0 0",
                     "3: (1, 0, 0)"):
            refused(self, "BadText", read, text)

    def test_long_texts(self):
        for text in ("1:" + " 1" * 5000, "1: " + "1" * 5000, "1:" + " " * 5000, ":" * 5000, "10: " + "01" * 5000):
            refused(self, "BadText", read, text)

    def test_things_that_are_no_texts(self):
        others = [[], ["3:"], ["3", ":"], ("3:",), {"3:": 1}, b"3:", bytearray(b"3:"), 3, 0, 1]
        for thing in odd_things() + list(DESKS) + others:
            refused(self, "BadText", read, thing)

    def test_handed_in_stays_and_nothing_is_kept(self):
        thing = ["3:"]
        refused(self, "BadText", read, thing)
        self.assertEqual(thing, ["3:"])
        texts = [shown(desk) for desk in DESKS]
        told = [read(text) for text in texts]
        again = [read(text) for text in reversed(texts)]
        self.assertEqual(again[::-1], told)


if __name__ == "__main__":
    unittest.main()
