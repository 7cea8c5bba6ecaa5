import itertools
import random
import unittest

from blockmoves.errors import InvalidFactor, InvalidName, InvalidText, InvalidValues, NotAForm
from blockmoves.forms import Form
from samples import GREAT, Liar, NAMES, NO_NAMES, STRANGE, changed, is_form_text, raised, random_form

# Factors and the text of their form.
TEXTS = [
    ({}, "0"),
    ({"cap": 1}, "cap"),
    ({"cap": -1}, "-cap"),
    ({"cap": 2}, "2*cap"),
    ({"cap": -2}, "-2*cap"),
    ({"@": 1}, "@"),
    ({"@": -12, "a": 1}, "-12*@ + a"),
    ({"cap": 3, "head": -1}, "3*cap - head"),
    ({"cap": -1, "head": 1}, "-cap + head"),
    ({"a": 10, "b": -1, "c": -11}, "10*a - b - 11*c"),
    ({"abcdefgh": -100, "z": GREAT}, f"-100*abcdefgh + {GREAT}*z"),
    ({"a": -GREAT}, f"-{GREAT}*a"),
    ({"a": 1, "a0": 1, "aa": 1, "b": 1}, "a + a0 + aa + b"),
    ({"all": 1, "any": -1, "not": 2}, "all - any + 2*not"),
]
NO_TEXTS = [
    "", " ", "00", "-0", "+0", "0*a", "-0*a", "1*a", "-1*a", "01*a", "02*a", "+a", "--a", "- a", "a ", " a", "a\n",
    "a + 0", "0 + a", "a + 0*b", "a + 1*b", "a+b", "a  + b", "a +b", "a+ b", "a + -b", "a - -b", "-a + -b", "a + a",
    "b + a", "a + b + a", "a + @", "a -", "a +", "+ a", "a b", "a + b c", "2a", "a*2", "2*", "*a", "2**a", "2*2*a",
    "2 * a", "2* a", "2 *a", "(a)", "view", "2*view", "abcdefghi", "A", "1", "2", "-2", "a + 1", "a = b", "1_0*a",
    "+2*a", "1e3*a", "0x2*a", "a * b", "a/b", "2.0*a", "a\n+ b", "None", "--", "-", "*", "\u0662*a", "\u00b2*a",
    "Form(a)",
]


class CreatingTest(unittest.TestCase):
    def test_text(self):
        for factors, text in TEXTS:
            for order in itertools.permutations(factors):
                form = Form(**{symbol: factors[symbol] for symbol in order})
                self.assertEqual(str(form), text)
                self.assertEqual(repr(form), f"Form({text})")
                self.assertEqual(form.symbols, tuple(sorted(factors)))

    def test_factor_0_leaves_no_term(self):
        self.assertEqual(str(Form(a=0)), "0")
        self.assertEqual(Form(a=0).symbols, ())
        form = Form(c=0, b=3, a=0)
        self.assertEqual((str(form), form.symbols, form.factor("a")), ("3*b", ("b",), 0))
        self.assertEqual(form, Form(b=3))

    def test_all_names_can_be_keywords(self):
        for name in NAMES + ["@"]:
            if name != "self":
                self.assertEqual(str(Form(**{name: 1})), name)

    def test_invalid_name(self):
        for name in NO_NAMES:
            if name != "@":
                self.assertEqual(raised(InvalidName, Form, **{name: 1}).value, name)

    def test_first_wrong_keyword_ahead_of_factors(self):
        self.assertEqual(raised(InvalidName, Form, a=None, Z=1, view=2).value, "Z")
        self.assertEqual(raised(InvalidName, Form, view=2, a=None, Z=1).value, "view")
        self.assertEqual(raised(InvalidName, Form, **{"a": True, "@": 1, "": 1}).value, "")

    def test_first_wrong_factor(self):
        for value in STRANGE + [True, False, "1", "a", (), (1,), Form(), Form(a=1)]:
            self.assertIs(raised(InvalidFactor, Form, a=value).value, value)
            self.assertIs(raised(InvalidFactor, Form, b=1, a=value, c=None).value, value)
        self.assertIs(raised(InvalidFactor, Form, b=True, a="x").value, True)
        self.assertEqual(raised(InvalidFactor, Form, a="x", b=True).value, "x")

    def test_only_keywords(self):
        self.assertRaises(TypeError, Form, 1)
        self.assertRaises(TypeError, Form, "a")


class ReadingTest(unittest.TestCase):
    def test_texts(self):
        for factors, text in TEXTS:
            form = Form.read(text)
            self.assertEqual(str(form), text)
            self.assertEqual(form, Form(**factors))
            self.assertEqual(Form.read(text=text), form)
            self.assertEqual(Form().read(text), form)
            self.assertEqual(form.symbols, tuple(sorted(factors)))

    def test_all_names(self):
        for name in NAMES + ["@"]:
            for text, factor in ((name, 1), (f"-{name}", -1), (f"7*{name}", 7), (f"-10*{name}", -10)):
                form = Form.read(text)
                self.assertEqual((str(form), form.symbols, form.factor(name)), (text, (name,), factor))

    def test_no_texts(self):
        for text in NO_TEXTS + [name for name in NO_NAMES if name not in ("0", "@", "-a", "2*a")]:
            self.assertEqual(raised(InvalidText, Form.read, text).value, text)

    def test_no_strings(self):
        for value in STRANGE + [True, False, 0, 1, (), ("a",), Form(), Form(a=1)]:
            self.assertIs(raised(InvalidText, Form.read, value).value, value)

    def test_factor_with_too_many_digits_for_python(self):
        text = "1" * 5000 + "*a"
        self.assertEqual(raised(InvalidText, Form.read, text).value, text)

    def test_one_sign_changed(self):
        seen = set()
        for _, text in TEXTS:
            if len(text) <= 20:
                seen.update(changed(text))
        good = 0
        for text in sorted(seen):
            if is_form_text(text):
                good += 1
                self.assertEqual(str(Form.read(text)), text)
            else:
                self.assertEqual(raised(InvalidText, Form.read, text).value, text)
        self.assertGreater(good, 100)

    def test_random_forms(self):
        chance = random.Random(1)
        for _ in range(300):
            form = random_form(chance, ["a", "b2", "cap", "@", "zzzzzzzz"])
            self.assertTrue(is_form_text(str(form)))
            self.assertEqual(Form.read(str(form)), form)


class AskingTest(unittest.TestCase):
    def test_factor(self):
        form = Form(cap=2, head=-1, len=0)
        self.assertEqual([form.factor(name) for name in ("cap", "head", "len", "x", "@")], [2, -1, 0, 0, 0])
        self.assertEqual(form.factor(symbol="cap"), 2)
        self.assertEqual(Form(**{"@": 5}).factor("@"), 5)

    def test_factor_of_any_value(self):
        form = Form(a=2, b=3)
        for value in STRANGE + NO_NAMES + [True, False, 0, 1, (), ("a",), ("a", 2), Form(a=2)]:
            self.assertEqual(form.factor(value), 0, repr(value))

    def test_evaluate(self):
        form = Form(cap=2, head=-3)
        self.assertEqual(form.evaluate((("cap", 4), ("head", 1))), 5)
        self.assertEqual(form.evaluate((("@", 9), ("cap", 0), ("head", 2), ("x", 7))), -6)
        self.assertEqual(form.evaluate(values=(("cap", GREAT), ("head", 0))), 2 * GREAT)
        self.assertEqual(Form(a=GREAT).evaluate((("a", GREAT),)), GREAT * GREAT)
        self.assertEqual(Form(**{"@": 3}).evaluate((("@", 2),)), 6)
        self.assertEqual(Form().evaluate(()), 0)
        self.assertEqual(Form(a=0).evaluate((("b", 3),)), 0)

    def test_invalid_values(self):
        form = Form(a=1, b=-1)
        for value in STRANGE + [
            True, 1, "a", (), (("a", 1),), (("b", 1),), (("a", 1), ("c", 1)), (("b", 1), ("a", 1)), [("a", 1), ("b", 1)],
            (("a", 1), ("b", -1)), (("a", 1), ("b", True)), (("a", 1), ("b", 1), ("b", 1)), (("a", 1), ("b", 1), None),
            (("a", 1), ["b", 1]), (("a", 1), ("b", 1, 1)), {"a": 1, "b": 1},
        ]:
            self.assertIs(raised(InvalidValues, form.evaluate, value).value, value)

    def test_form_without_terms_asks_for_values_too(self):
        for value in (None, [], "", (("a", -1),), (("b", 1), ("a", 1))):
            self.assertIs(raised(InvalidValues, Form().evaluate, value).value, value)


class CalculatingTest(unittest.TestCase):
    def test_results(self):
        first, second = Form(a=2, b=-1), Form(b=3, c=1)
        self.assertEqual(str(first + second), "2*a + 2*b + c")
        self.assertEqual(str(first - second), "2*a - 4*b - c")
        self.assertEqual(str(second - first), "-2*a + 4*b + c")
        self.assertEqual(str(-first), "-2*a + b")
        self.assertEqual(str(first * 3), "6*a - 3*b")
        self.assertEqual(str(first * -1), "-2*a + b")
        self.assertEqual(str(first * 1), "2*a - b")
        self.assertEqual(str(first * GREAT), f"{2 * GREAT}*a - {GREAT}*b")
        self.assertEqual(str(first * GREAT * GREAT), f"{2 * GREAT * GREAT}*a - {GREAT * GREAT}*b")

    def test_terms_that_go(self):
        form = Form(a=2, b=-1)
        for nothing in (form - form, form + -form, form * 0, Form(), -Form(), Form() * 5, Form() + Form()):
            self.assertEqual((str(nothing), repr(nothing), nothing.symbols), ("0", "Form(0)", ()))
            self.assertEqual(nothing, Form())
            self.assertEqual(nothing.evaluate(()), 0)
        self.assertEqual((form + Form(a=-2)).symbols, ("b",))
        self.assertEqual((form - Form(b=-1, c=0)).symbols, ("a",))

    def test_values_of_results(self):
        chance = random.Random(2)
        for _ in range(200):
            one, two = random_form(chance, "abcd"), random_form(chance, "cdef")
            number = chance.randint(-4, 4)
            values = tuple((symbol, chance.randint(0, 9)) for symbol in "abcdef")
            left, right = one.evaluate(values), two.evaluate(values)
            results = [one + two, one - two, -one, one * number]
            self.assertEqual([form.evaluate(values) for form in results],
                             [left + right, left - right, -left, left * number])
            for form in results:
                self.assertEqual(Form.read(str(form)), form)
                self.assertEqual(form.symbols, tuple(sorted(s for s in "abcdef" if form.factor(s) != 0)))

    def test_name_self(self):
        form = Form.read("2*self") + Form.read("head")
        self.assertEqual(str((form * 2 - Form(head=1)) * -1), "-head - 4*self")
        self.assertEqual((-form).factor("self"), -2)
        self.assertEqual(form.evaluate((("head", 1), ("self", 4))), 9)

    def test_operands_stay(self):
        one, two = Form(a=2, b=-1), Form(b=3)
        same = one
        one += two
        one -= Form(a=1)
        one *= 5
        _ = [same + two, same - two, -same, same * 7, same.evaluate((("a", 1), ("b", 1)))]
        self.assertEqual([str(one), str(same), str(two)], ["5*a + 10*b", "2*a - b", "3*b"])
        self.assertEqual([same.symbols, two.symbols], [("a", "b"), ("b",)])

    def test_wrong_right_operand(self):
        form = Form(a=1)
        for value in STRANGE + [True, False, 0, 1, "a", "0", (), (form,), [form]]:
            self.assertIs(raised(NotAForm, lambda: form + value).value, value)
            self.assertIs(raised(NotAForm, lambda: form - value).value, value)
        for value in STRANGE + [True, False, "2", "a", (), (2,), form, Form()]:
            self.assertIs(raised(InvalidFactor, lambda: form * value).value, value)
            self.assertIs(raised(InvalidFactor, lambda: Form() * value).value, value)


class EqualityTest(unittest.TestCase):
    def test_equal_whatever_the_way(self):
        for form in (Form(a=2, b=-1), Form(b=-1, a=2), Form.read("2*a - b"), Form(a=1) * 2 - Form(b=1),
                     -Form(a=-2, b=1), Form(a=2, c=3) - Form(c=3, b=1), Form(a=2, b=-1, c=0)):
            self.assertTrue(form == Form(a=2, b=-1))
            self.assertFalse(form != Form(a=2, b=-1))
            self.assertEqual(repr(form), "Form(2*a - b)")

    def test_unequal(self):
        forms = [Form(**factors) for factors, _ in TEXTS]
        for one, two in itertools.combinations(forms, 2):
            self.assertFalse(one == two)
            self.assertTrue(one != two)

    def test_other_classes(self):
        for value in STRANGE + ["0", "a", 0, 1, True, False, (), (("a", 1),), Liar()]:
            for form in (Form(), Form(a=1)):
                self.assertIs(form == value, False, repr(value))
                self.assertIs(form != value, True, repr(value))


if __name__ == "__main__":
    unittest.main()
