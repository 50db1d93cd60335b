"""The names and arguments of the interface, as far as they have landed."""

import importlib
import inspect
import unittest

FUNCTIONS = {
    "words": ("is_word(thing, size)", "plus(one, other)", "weight(word)", "apart(one, other)",
              "meet_evenly(one, other)", "none(size)"),
    "desks": ("made(size, words)", "checked(desk)", "heads(desk)", "has(desk, word)", "count(desk)", "words_of(desk)"),
    "messages": ("put(desk, message)", "told_back(desk, word)"),
    "checks": ("checks(desk)", "sign(desk, word)", "leaders(desk)"),
    "mending": ("mended(desk, word)", "gap(desk)", "reach(desk)"),
    "tearing": ("fillings(desk, torn)", "sure(desk, torn)"),
}


class Interface(unittest.TestCase):
    def test_names_and_arguments(self):
        for file, told in FUNCTIONS.items():
            module = importlib.import_module("paritydesk." + file)
            for row in told:
                name = row.partition("(")[0]
                self.assertEqual(name + str(inspect.signature(getattr(module, name))), row)


if __name__ == "__main__":
    unittest.main()
