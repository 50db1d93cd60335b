"""The names and arguments of the interface."""

import importlib
import inspect
import unittest

FUNCTIONS = {
    "words": ("is_word(thing, size)", "plus(one, other)", "weight(word)", "apart(one, other)",
              "meet_evenly(one, other)", "none(size)"),
    "desks": ("made(size, words)", "checked(desk)", "heads(desk)", "has(desk, word)", "count(desk)", "words_of(desk)"),
    "messages": ("put(desk, message)", "told_back(desk, word)"),
    "checks": ("checks(desk)", "sign(desk, word)", "leaders(desk)"),
    "mending": ("mended(desk, word)", "gap(desk)", "reach(desk)"),
    "tearing": ("fillings(desk, torn)", "sure(desk, torn)"),
    "several": ("joined(one, other)", "met(one, other)", "within(one, other)", "beside(one, other)",
                "doubled(one, other)"),
    "cutting": ("cut(desk, place)", "kept(desk, place)"),
    "counting": ("counts(desk)", "counts_of_checks(numbers)", "rank(desk, places)", "are_free(desk, places)",
                 "tell_all(desk, places)"),
    "texts": ("shown(desk)", "read(text)"),
}


class Interface(unittest.TestCase):
    def test_names_and_arguments(self):
        for file, told in FUNCTIONS.items():
            module = importlib.import_module("paritydesk." + file)
            for row in told:
                name = row.partition("(")[0]
                self.assertEqual(name + str(inspect.signature(getattr(module, name))), row)


if __name__ == "__main__":
    unittest.main()
