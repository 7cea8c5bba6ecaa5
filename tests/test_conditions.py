import itertools
import random
import unittest

from blockmoves.conditions import All, Any, Below, Condition, Not, Same, Upto
from blockmoves.errors import InvalidValues, NotACondition, NotAForm, TooMany
from blockmoves.forms import Form
from samples import GREAT, Liar, STRANGE, built, raised, random_plan

A, B, C, ZERO = Form(a=1), Form(b=1), Form(c=1), Form()
ATOMS = [(Below, "<"), (Upto, "<="), (Same, "=")]
KINDS = [Below, Upto, Same, Not, All, Any]
LESS = Below(A, B)
NO_CONDITIONS = STRANGE + [True, False, 0, 1, "a < b", (), (LESS,), [LESS], A]


def one_of_each():
    return [Below(A, B), Upto(A, B), Same(A, B), Not(LESS), All(LESS), Any(LESS)]


def deep(depth):
    condition = LESS
    for _ in range(depth - 1):
        condition = Not(condition)
    return condition


class KindsTest(unittest.TestCase):
    def test_words(self):
        self.assertEqual([kind.WORD for kind in KINDS], ["<", "<=", "=", "not", "all", "any"])
        self.assertEqual([condition.WORD for condition in one_of_each()], ["<", "<=", "=", "not", "all", "any"])

    def test_instances(self):
        for kind, condition in zip(KINDS, one_of_each()):
            self.assertIsInstance(condition, Condition)
            self.assertEqual([other for other in KINDS if isinstance(condition, other)], [kind])
            self.assertIs(condition.__class__, kind)

    def test_atoms(self):
        for kind, word in ATOMS:
            condition = kind(A * 2 - C, B)
            self.assertEqual(str(condition), f"2*a - c {word} b")
            self.assertEqual(repr(condition), f"Condition(2*a - c {word} b)")
            self.assertEqual((condition.symbols, condition.parts, condition.depth), (("a", "b", "c"), 1, 1))
            self.assertEqual(str(kind(second=A, first=B)), f"b {word} a")
            self.assertEqual(str(kind(ZERO, Form(**{"@": -1}))), f"0 {word} -@")
            self.assertEqual(kind(ZERO, ZERO).symbols, ())

    def test_without_conditions(self):
        for kind, text in ((All, "all()"), (Any, "any()")):
            condition = kind()
            self.assertEqual((str(condition), repr(condition)), (text, f"Condition({text})"))
            self.assertEqual((condition.symbols, condition.parts, condition.depth), ((), 1, 1))
        self.assertEqual((Not(All()).parts, Not(All()).depth), (2, 2))

    def test_compounds(self):
        inner = (Upto(A, B), Any(), Not(Same(B, C)))
        for kind, word in ((All, "all"), (Any, "any")):
            condition = kind(*inner)
            self.assertEqual(str(condition), f"{word}(a <= b, any(), not(b = c))")
            self.assertEqual(repr(condition), f"Condition({word}(a <= b, any(), not(b = c)))")
            self.assertEqual((condition.symbols, condition.parts, condition.depth), (("a", "b", "c"), 5, 3))
            self.assertEqual((str(kind(LESS)), kind(LESS).parts, kind(LESS).depth), (f"{word}(a < b)", 2, 2))
        self.assertEqual(str(Not(condition=LESS)), "not(a < b)")
        self.assertEqual((Not(LESS).symbols, Not(LESS).parts, Not(LESS).depth), (("a", "b"), 2, 2))

    def test_symbols_of_all_forms(self):
        self.assertEqual(Any(Below(C, Form(**{"@": 1})), Not(All(Same(A - A, B)))).symbols, ("@", "b", "c"))
        self.assertEqual(Same(A + B - A, C - C).symbols, ("b",))

    def test_signs(self):
        first, second = Below(A, B), Same(B, C)
        self.assertIsInstance(first & second, All)
        self.assertIsInstance(first | second, Any)
        self.assertIsInstance(~first, Not)
        self.assertEqual(str(first & second), "all(a < b, b = c)")
        self.assertEqual(str(second | first), "any(b = c, a < b)")
        self.assertEqual(str(~second), "not(b = c)")
        self.assertEqual(str(first & second & first), "all(all(a < b, b = c), a < b)")
        self.assertEqual([str(first), str(second)], ["a < b", "b = c"])

    def test_operands_stay(self):
        one = same = Below(A, B)
        one &= Upto(A, C)
        one |= same
        self.assertEqual([str(one), str(same)], ["any(all(a < b, a <= c), a < b)", "a < b"])
        self.assertEqual((same.parts, same.depth, same.symbols), (1, 1, ("a", "b")))


class WrongArgumentsTest(unittest.TestCase):
    def test_not_a_form(self):
        for kind, _ in ATOMS:
            for value in STRANGE + [True, 0, 1, "a", "0", (), (A,), LESS]:
                self.assertIs(raised(NotAForm, kind, value, A).value, value)
                self.assertIs(raised(NotAForm, kind, A, value).value, value)
                self.assertIs(raised(NotAForm, kind, second="x", first=value).value, value)

    def test_not_a_condition(self):
        for value in NO_CONDITIONS:
            self.assertIs(raised(NotACondition, Not, value).value, value)
            for kind in (All, Any):
                self.assertIs(raised(NotACondition, kind, value).value, value)
                self.assertIs(raised(NotACondition, kind, LESS, LESS, value, "later").value, value)
            self.assertIs(raised(NotACondition, lambda: LESS & value).value, value)
            self.assertIs(raised(NotACondition, lambda: LESS | value).value, value)

    def test_not_a_condition_comes_before_the_limits(self):
        many = [LESS] * 20
        for kind in (All, Any):
            self.assertIsNone(raised(NotACondition, kind, *many, None).value)
            self.assertEqual(raised(NotACondition, kind, deep(4), 5).value, 5)

    def test_parts(self):
        for kind in (All, Any):
            self.assertEqual(kind(*[LESS] * 11).parts, 12)
            self.assertEqual(raised(TooMany, kind, *[LESS] * 12).limit, 12)
            self.assertEqual(raised(TooMany, kind, *[kind()] * 12).limit, 12)
            self.assertEqual(raised(TooMany, kind, *[LESS] * 100).limit, 12)
            ten = kind(*[LESS] * 9)
            self.assertEqual(kind(ten, LESS).parts, 12)
            self.assertEqual(Not(Not(ten)).parts, 12)
            self.assertEqual(raised(TooMany, kind, ten, LESS, LESS).limit, 12)
            self.assertEqual(raised(TooMany, Not, Not(Not(ten))).limit, 12)
            self.assertEqual(raised(TooMany, kind, ten, ten).limit, 12)
            self.assertEqual(raised(TooMany, lambda: ten & Not(LESS)).limit, 12)
            self.assertEqual(raised(TooMany, lambda: ten | Not(LESS)).limit, 12)
            self.assertEqual(raised(TooMany, lambda: ~Not(Not(ten))).limit, 12)
            self.assertEqual((ten & LESS).parts, 12)
            self.assertEqual((ten | LESS).parts, 12)

    def test_depth(self):
        self.assertEqual(deep(4).depth, 4)
        for kind in (Not, All, Any):
            self.assertEqual(kind(deep(3)).depth, 4)
            self.assertEqual(raised(TooMany, kind, deep(4)).limit, 4)
        for kind in (All, Any):
            self.assertEqual(kind(LESS, deep(3), LESS).depth, 4)
            self.assertEqual(raised(TooMany, kind, LESS, deep(4), LESS).limit, 4)
            self.assertEqual(Not(Not(Not(kind()))).depth, 4)
            self.assertEqual(raised(TooMany, kind, Not(Not(Not(kind())))).limit, 4)
        self.assertEqual(raised(TooMany, lambda: LESS & deep(4)).limit, 4)
        self.assertEqual(raised(TooMany, lambda: deep(4) | LESS).limit, 4)
        self.assertEqual(raised(TooMany, lambda: ~deep(4)).limit, 4)

    def test_parts_come_before_depth(self):
        for kind in (All, Any):
            self.assertEqual(raised(TooMany, kind, deep(4), *[LESS] * 8).limit, 12)
            self.assertEqual(raised(TooMany, kind, deep(4), *[LESS] * 7).limit, 4)
        full = Not(Not(All(*[LESS] * 9)))
        self.assertEqual((full.parts, full.depth), (12, 4))
        self.assertEqual(raised(TooMany, Not, full).limit, 12)


class HoldingTest(unittest.TestCase):
    def test_atoms(self):
        for a, b in itertools.product(range(4), repeat=2):
            values = (("a", a), ("b", b))
            self.assertIs(Below(A, B)(values), a < b)
            self.assertIs(Upto(A, B)(values), a <= b)
            self.assertIs(Same(A, B)(values), a == b)
            self.assertIs(Below(A * 2 - B, B)(values=values), 2 * a - b < b)
            self.assertIs(Upto(ZERO, A - B)(values), a >= b)

    def test_compounds(self):
        first, second = Below(A, B), Below(B, C)
        for a, b, c in itertools.product(range(3), repeat=3):
            values = (("a", a), ("b", b), ("c", c))
            one, two = a < b, b < c
            self.assertIs(Not(first)(values), not one)
            self.assertIs(All(first, second)(values), one and two)
            self.assertIs(Any(first, second)(values), one or two)
            self.assertIs((first & ~second | second)(values), (one and not two) or two)
            self.assertIs(All(first, All(), Any(second, Not(first)))(values), one and two)

    def test_without_conditions(self):
        self.assertIs(All()(()), True)
        self.assertIs(Any()(()), False)
        self.assertIs(Not(All())((("x", 1),)), False)
        self.assertIs(Not(Any())(()), True)

    def test_further_and_great_values(self):
        condition = Below(A, Form(**{"@": 1}))
        self.assertIs(condition((("@", GREAT + 1), ("a", GREAT), ("b", 0))), True)
        self.assertIs(condition((("@", GREAT), ("a", GREAT))), False)

    def test_invalid_values(self):
        for condition in (LESS, Same(A, B), Not(LESS), All(LESS), Any(Below(A, A), LESS), Any(All(), LESS)):
            for value in STRANGE + [
                True, "a", (), (("a", 1),), (("b", 1),), (("b", 1), ("a", 1)), [("a", 1), ("b", 1)],
                (("a", 1), ("b", -1)), (("a", 1), ("b", True)), (("a", 1), ("b", 1), ("view", 1)), {"a": 1, "b": 1},
            ]:
                self.assertIs(raised(InvalidValues, condition, value).value, value)
                self.assertIs(raised(InvalidValues, condition, values=value).value, value)

    def test_values_are_checked_without_symbols_too(self):
        for condition in (All(), Any(), Not(All()), Same(ZERO, ZERO)):
            for value in (None, [], "", (("a", -1),), (("b", 1), ("a", 1))):
                self.assertIs(raised(InvalidValues, condition, value).value, value)


class EqualityTest(unittest.TestCase):
    def test_equal_texts(self):
        self.assertTrue(Below(A + B, C) == Below(B + A, C * 1))
        self.assertFalse(Below(A + B, C) != Below(B + A, C))
        self.assertTrue(All(LESS, Not(LESS)) == (Below(A, B) & ~Below(A, B)))
        self.assertTrue(Any() == Any())

    def test_unequal(self):
        different = one_of_each() + [All(), Any(), Not(All()), All(LESS, LESS), Below(B, A), Any(All()), All(Any()),
                                     All(LESS, Any()), All(Any(), LESS), Not(Not(LESS)), Below(A, ZERO)]
        for one, two in itertools.combinations(different, 2):
            self.assertFalse(one == two)
            self.assertTrue(one != two)

    def test_random(self):
        chance = random.Random(3)
        for _ in range(100):
            plan = random_plan(chance)
            self.assertEqual(built(plan), built(plan))
            self.assertEqual(repr(built(plan)), f"Condition({built(plan)})")

    def test_other_classes(self):
        for condition in one_of_each():
            for value in NO_CONDITIONS[:-4] + [str(condition), A, None, Liar(), (condition,)]:
                self.assertIs(condition == value, False)
                self.assertIs(condition != value, True)
            self.assertFalse(A == condition)


if __name__ == "__main__":
    unittest.main()
