import unittest

from addednames.words import is_name, is_thing
from support import STRANGE, Greedy, Touchy


class WordsTest(unittest.TestCase):
    def test_names(self):
        for value in ["a", "z", "az", "name", "abcdefgh", "zzzzzzzz"]:
            self.assertIs(is_name(value), True, value)

    def test_no_names(self):
        others = ["", "abcdefghi", "z" * 1000, "A", "aB", "Z", "a1", "1", "a b", " a", "a\n", "a_", "`", "{", "a.b", "a-"]
        for value in [*others, "\u00e4", "\u00df", "\u0430", "\uff41", "a\u0301", "\x00"]:
            self.assertIs(is_name(value), False, value)

    def test_other_kinds_are_no_names(self):
        for value in [*STRANGE, 1, ["a"], ("a",), {"a": 1}, Greedy(), Touchy()]:
            self.assertIs(is_name(value), False, repr(type(value)))

    def test_things(self):
        for value in [1, 2, 999999999, 1000000000]:
            self.assertIs(is_thing(value), True, value)

    def test_no_things(self):
        for value in [0, -1, 1000000001, 10 ** 30, -(10 ** 30), "1", [1], (1,), Greedy(), Touchy(), *STRANGE]:
            self.assertIs(is_thing(value), False, repr(type(value)))

    def test_by_name(self):
        self.assertIs(is_name(value="a"), True)
        self.assertIs(is_thing(value=1), True)


if __name__ == "__main__":
    unittest.main()
