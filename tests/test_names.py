import unittest

from blockmoves.forms import is_name, is_symbol, is_values
from samples import GREAT, Liar, NAMES, NO_NAMES, STRANGE

INTEGERS = [0, 1, -1, True, False]


class NamesTest(unittest.TestCase):
    def test_names(self):
        for value in NAMES:
            self.assertIs(is_name(value), True, value)
            self.assertIs(is_symbol(value), True, value)

    def test_no_names(self):
        for value in NO_NAMES:
            self.assertIs(is_name(value), False, value)
            self.assertIs(is_symbol(value), value == "@", value)

    def test_all_single_signs(self):
        for code in range(32, 127):
            sign = chr(code)
            small = "a" <= sign <= "z"
            self.assertIs(is_name(sign), small)
            self.assertIs(is_name("a" + sign), small or "0" <= sign <= "9")
            self.assertIs(is_symbol(sign), small or sign == "@")

    def test_other_letters(self):
        for value in ("\u00e9", "a\u00e9", "\u0663", "a\u0663", "a\u00b2"):
            self.assertIs(is_name(value), False)
            self.assertIs(is_symbol(value), False)

    def test_any_value(self):
        for value in STRANGE + INTEGERS + [(), ("a",), ["@"]]:
            self.assertIs(is_name(value), False, repr(value))
            self.assertIs(is_symbol(value), False, repr(value))

    def test_by_name(self):
        self.assertIs(is_name(value="a"), True)
        self.assertIs(is_symbol(value="@"), True)
        self.assertIs(is_values(value=()), True)


class ValuesTest(unittest.TestCase):
    def test_values(self):
        for value in [
            (), (("a", 0),), (("@", 1),), (("@", 3), ("a", 1)), (("a", 1), ("b", 0)), (("a", 5), ("a0", 4), ("aa", 3)),
            (("a", GREAT), ("cap", 0), ("head", GREAT)), tuple((f"a{at}", 9 - at) for at in range(10)),
        ]:
            self.assertIs(is_values(value), True, value)

    def test_no_values(self):
        for value in [
            "", "a", ("a", 1), (("a", 1), ("a", 1)), (("a", 1), ("a", 2)), (("b", 1), ("a", 2)), (("a", 1), ("@", 2)),
            (("a", 1), ("a", 2), ("b", 1)), (("a", 1), ("a", 1), ("b", 1)), (("a", 1), ("c", 1), ("b", 1)),
            (("aa", 1), ("a0", 1)), [], [("a", 1)], (["a", 1],), (("a", 1), ["b", 1]), (("a",),), (("a", 1, 2),),
            ((),), ("a1",), (("a", -1),), (("a", True),), (("a", False),), (("a", None),), (("a", "1"),),
            (("a", (1,)),), (("view", 1),), (("A", 1),), (("", 1),), (("abcdefghi", 1),), ((1, "a"),), ((1, 1),),
            ((None, 1),), ((["a"], 1),), ((Liar(), 1),), (("a", Liar()),), (("a", 0), None), (None,), ((b"a", 1),),
        ]:
            self.assertIs(is_values(value), False, repr(value))

    def test_any_value(self):
        for value in STRANGE + INTEGERS + NAMES:
            self.assertIs(is_values(value), False, repr(value))
            self.assertIs(is_values((value,)), False, repr(value))
            self.assertIs(is_values((("a", 1), value)), False, repr(value))


if __name__ == "__main__":
    unittest.main()
