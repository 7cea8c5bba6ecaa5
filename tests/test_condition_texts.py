import random
import unittest

from blockmoves.conditions import All, Any, Below, Not, Same, Upto, read_condition
from blockmoves.errors import InvalidText
from blockmoves.forms import Form
from samples import STRANGE, built, changed, is_condition_text, raised, random_plan

A, B = Form(a=1), Form(b=1)
LESS = Below(A, B)

GOOD = [
    ("a < b", LESS),
    ("a <= b", Upto(A, B)),
    ("a = b", Same(A, B)),
    ("0 <= -2*@ + 3*b", Upto(Form(), Form(**{"@": -2, "b": 3}))),
    ("0 = 0", Same(Form(), Form())),
    ("not(a < b)", Not(LESS)),
    ("all()", All()),
    ("any()", Any()),
    ("all(a < b)", All(LESS)),
    ("any(a < b, a = b)", Any(LESS, Same(A, B))),
    ("not(all())", Not(All())),
    ("all(any(), all(), not(any()))", All(Any(), All(), Not(Any()))),
    ("all(any(a < b, b <= a), a = b)", All(Any(LESS, Upto(B, A)), Same(A, B))),
    ("all < any", Below(Form(all=1), Form(any=1))),
    ("not = -all + any", Same(Form(**{"not": 1}), Form(any=1, all=-1))),
    ("not(all = not)", Not(Same(Form(all=1), Form(**{"not": 1})))),
    ("self < a", Below(Form.read("self"), A)),
]
BAD = [
    "", " ", "0", "a", "true", "True", "None", "<", " < ", "a <", "< b", "a < ", " < b", "a<b", "a <b", "a< b", "a  < b",
    "a <  b", " a < b", "a < b ", "a < b\n", "\na < b", "a > b", "a >= b", "a == b", "a =< b", "a != b", "a < b < c",
    "a < b = c", "a <= b <= c", "a = b = c", "(a < b)", "()", "(", ")", "not()", "not", "not a < b", "not (a < b)",
    "not( a < b)", "not(a < b )", "not(a < b", "not(a < b))", "not(a < b, a < b)", "Not(a < b)", "NOT(a < b)", "all",
    "all(", "all)", "all( )", "all(,)", "all(, )", "all(a < b,)", "all(a < b, )", "all(, a < b)", "all(a < b,a < b)",
    "all(a < b,  a < b)", "all(a < b a < b)", "all(a < b; a < b)", "all (a < b)", "all(a < b),", "all(a < b) ",
    "all()()", "all())", "all(()", "all()all()", "all(), all()", "all(all)", "all(0)", "all[]", "both(a < b)",
    "a < b, a < b", "b + a < c", "a + a < b", "1*a < b", "0*a < b", "a < view", "view < a", "a < 1", "a < -0", "a < b c",
    "all(a < b, not(), a < b)", "any(any(any(any(any()))))", "any(a < b))(", "all(a < b)(a < b)", "not(not)",
    "a < b(", "a < b)", "a(< b", "a < (b)", "all(a\n< b)", "any(a < b,\na < b)", "a < b and b < a", "~all()",
]


class ReadingTest(unittest.TestCase):
    def test_good_texts(self):
        for text, condition in GOOD:
            found = read_condition(text)
            self.assertEqual(str(found), text)
            self.assertIs(found.__class__, condition.__class__)
            self.assertEqual(found, condition)
            self.assertEqual((found.symbols, found.parts, found.depth),
                             (condition.symbols, condition.parts, condition.depth))
            self.assertEqual(read_condition(text=text), condition)
            self.assertTrue(is_condition_text(text))

    def test_bad_texts(self):
        for text in BAD:
            self.assertFalse(is_condition_text(text), text)
            self.assertEqual(raised(InvalidText, read_condition, text).value, text)

    def test_no_strings(self):
        for value in STRANGE + [True, False, 0, 1, (), ("a < b",), LESS, Form()]:
            self.assertIs(raised(InvalidText, read_condition, value).value, value)

    def test_parts(self):
        for word in ("all", "any"):
            twelve = f"{word}({', '.join(['a < b'] * 11)})"
            self.assertEqual(read_condition(twelve).parts, 12)
            thirteen = f"{word}({', '.join(['a < b'] * 12)})"
            nested = f"{word}(a < b, not({twelve}))"
            for text in (thirteen, nested, f"not({twelve})", f"{word}({', '.join(['all()'] * 12)})"):
                self.assertEqual(raised(InvalidText, read_condition, text).value, text)

    def test_depth(self):
        for inner in ("a < b", "all()", "any()"):
            for word in ("not", "all", "any"):
                four = f"{word}(" * 3 + inner + ")" * 3
                self.assertEqual((str(read_condition(four)), read_condition(four).depth), (four, 4))
                five = f"{word}({four})"
                beside = f"any(a < b, {four})"
                for text in (five, beside, f"not({five})"):
                    self.assertEqual(raised(InvalidText, read_condition, text).value, text)

    def test_long_texts(self):
        for text in ("not(" * 1400, "(" * 5000, ")" * 5000, "not(" * 1000 + "a < b" + ")" * 1000, "all(" + "a < b, " * 800,
                     "any(" + ", ".join(["a < b"] * 800) + ")", "a < " * 1500, "," * 6000, "a + " * 1000 + "a < b"):
            self.assertEqual(raised(InvalidText, read_condition, text).value, text)

    def test_one_sign_changed(self):
        seen = set()
        for text, _ in GOOD:
            seen.update(changed(text))
        good = 0
        for text in sorted(seen):
            if is_condition_text(text):
                good += 1
                self.assertEqual(str(read_condition(text)), text)
            else:
                self.assertEqual(raised(InvalidText, read_condition, text).value, text)
        self.assertGreater(good, 200)

    def test_random_conditions(self):
        chance = random.Random(4)
        for _ in range(300):
            condition = built(random_plan(chance))
            found = read_condition(str(condition))
            self.assertEqual(found, condition)
            self.assertEqual((found.symbols, found.parts, found.depth),
                             (condition.symbols, condition.parts, condition.depth))


if __name__ == "__main__":
    unittest.main()
