import itertools
import random
import unittest

from blockmoves.catalog import ring, stack
from blockmoves.conditions import All, Any, Below, Not, Same, Upto, read_condition
from blockmoves.containers import Container, find_unsound, is_sound
from blockmoves.errors import (
    InvalidArrays, InvalidBegin, InvalidCases, InvalidFields, InvalidInvariant, InvalidParameters, InvalidPremise,
    InvalidText, NotAContainer)
from blockmoves.forms import Form
from judges import altered_lines, is_container_text
from samples import NAMES, NO_NAMES, STRANGE, Liar, changed, raised, random_form, random_plan, built

N, CAP, LEN, AT, ZERO = Form(n=1), Form(cap=1), Form(len=1), Form(at=1), Form()
GOOD = {
    "arrays": (("buf", "cap"),), "fields": ("len", "at"), "parameters": ("n",), "premise": Upto(ZERO, N),
    "begin": (("len", ZERO), ("cap", N), ("at", ZERO)), "invariant": Upto(LEN + AT, CAP),
    "cases": ((All(), (("buf", AT, LEN + AT, True),)),),
}
NAMES_IN_ORDER = list(GOOD)
TEXT = """array buf cap
field len
field at
parameters n
premise 0 <= n
begin at = 0
begin cap = n
begin len = 0
invariant at + len <= cap
case all()
  buf[at .. at + len] reversed"""

MANY = """array z y
array x w
array v u
field t
parameters z y x w
premise any(z < y, not(x = w))
begin t = 2*w - x
begin u = 0
begin w = z
begin y = y
invariant all(t <= u, u = w)
case t < u
case not(t < u)
  z[0 .. y]
  x[t .. -t + 2*w]
  x[0 .. u] reversed
case any()
  v[u .. 0] reversed"""


def with_changed(**named):
    return {**GOOD, **named}


class MadeTest(unittest.TestCase):
    def test_properties(self):
        for container in (Container(**GOOD), Container(*GOOD.values()), Container.read(TEXT), Container.read(text=TEXT)):
            self.assertEqual(str(container), TEXT)
            self.assertEqual(repr(container), "Container(1 arrays, 3 fields)")
            self.assertEqual(container.arrays, (("buf", "cap"),))
            self.assertEqual(container.fields, ("at", "cap", "len"))
            self.assertEqual(container.parameters, ("n",))
            self.assertEqual(container.premise, Upto(ZERO, N))
            self.assertEqual(container.begin, (("at", ZERO), ("cap", N), ("len", ZERO)))
            self.assertEqual(container.invariant, Upto(LEN + AT, CAP))
            self.assertEqual(container.cases, GOOD["cases"])
            self.assertIs(type(container.cases[0][1][0]), tuple)
            self.assertTrue(is_container_text(str(container)))

    def test_many(self):
        container = Container.read(MANY)
        self.assertEqual(str(container), MANY)
        self.assertEqual(repr(container), "Container(3 arrays, 4 fields)")
        self.assertEqual(container.arrays, (("z", "y"), ("x", "w"), ("v", "u")))
        self.assertEqual(container.fields, ("t", "u", "w", "y"))
        self.assertEqual(container.parameters, ("z", "y", "x", "w"))
        self.assertEqual([len(stretches) for _, stretches in container.cases], [0, 3, 1])
        self.assertEqual(container.cases[1][1][2], ("x", ZERO, Form(u=1), True))
        self.assertTrue(is_container_text(MANY))

    def test_few(self):
        text = "array a b\nparameters\npremise all()\nbegin b = 0\ninvariant all()\ncase all()"
        container = Container((("a", "b"),), (), (), All(), (("b", ZERO),), All(), ((All(), ()),))
        self.assertEqual((str(container), container), (text, Container.read(text)))
        self.assertEqual((container.fields, container.parameters), (("b",), ()))

    def test_names(self):
        for name in NAMES:
            text = (f"array {name} cap0\nfield len\nparameters {name}\npremise 0 < {name}\nbegin cap0 = {name}\nbegin len = 0\n"
                    f"invariant all()\ncase 0 <= len\n  {name}[0 .. len]")
            self.assertEqual(str(Container.read(text)), text)

    def test_equal(self):
        further = ("at", "len")
        one, other = Container(**GOOD), Container(**with_changed(fields=further))
        # The text tells the order of the further fields, the property does not.
        self.assertEqual(one.fields, other.fields)
        self.assertNotEqual(one, other)
        self.assertNotEqual(str(one), str(other))
        texts = [TEXT, MANY, str(other), str(ring()), str(stack()), TEXT.replace(" reversed", ""),
                 TEXT.replace("<= cap", "< cap"), TEXT.replace("buf", "bug"), TEXT.replace("parameters n", "parameters n m")]
        for at, first in enumerate(texts):
            for other_at, second in enumerate(texts):
                self.assertIs(Container.read(first) == Container.read(second), at == other_at)
                self.assertIs(Container.read(first) != Container.read(second), at != other_at)
        self.assertEqual(one, Container(**with_changed(begin=GOOD["begin"][::-1])))
        for value in [TEXT, None, 1, Container, All()] + [value for value in STRANGE if not isinstance(value, Liar)]:
            self.assertIs(one == value, False)
            self.assertIs(one != value, True)


class WrongArgumentsTest(unittest.TestCase):
    def check(self, error, name, value, field="index", expected=None):
        """Whatever stands behind the wrong argument, the error is the same."""
        behind = NAMES_IN_ORDER[NAMES_IN_ORDER.index(name) + 1:]
        for later in ({}, {other: None for other in behind}):
            found = raised(error, Container, **{**with_changed(**{name: value}), **later})
            self.assertIs(type(found), error)
            if field == "value":
                self.assertIs(found.value, value)
            else:
                self.assertEqual(found.index, expected)

    def check_all(self, error, name, cases):
        for expected, value in cases:
            self.check(error, name, value, expected=expected)
        for value in STRANGE + [True, 1, "", "ab", LEN, All(), list(GOOD[name])]:
            self.check(error, name, value, expected=None)

    def test_arrays(self):
        four = (("a", "b"), ("c", "d"), ("e", "f"), ("g", "h"))
        self.check_all(InvalidArrays, "arrays", [(None, ()), (None, four), (None, four + (None,)), (2, four[:2] + (("x",),))])
        pair = ("a", "b")
        for wrong in STRANGE + NO_NAMES + [(), ("x",), ("x", "y", "z"), ["x", "y"], "xy", ("x", "x"), True, 1]:
            self.check(InvalidArrays, "arrays", (wrong,), expected=0)
            self.check(InvalidArrays, "arrays", (wrong, wrong), expected=0)
            self.check(InvalidArrays, "arrays", (pair, wrong), expected=1)
        for wrong in STRANGE + NO_NAMES + ["a", "b", True, 1]:
            self.check(InvalidArrays, "arrays", (pair, (wrong, "z")), expected=1)
            self.check(InvalidArrays, "arrays", (pair, ("z", wrong)), expected=1)
            self.check(InvalidArrays, "arrays", (pair, ("c", "d"), ("z", wrong)), expected=2)

    def test_fields(self):
        for wrong in STRANGE + NO_NAMES + ["buf", "cap", True, 1, ()]:
            self.check(InvalidFields, "fields", (wrong,), expected=0)
            self.check(InvalidFields, "fields", ("len", wrong), expected=1)
        self.check(InvalidFields, "fields", ("len", "len"), expected=1)
        self.check(InvalidFields, "fields", ("len", "at", "len"), expected=2)
        self.check_all(InvalidFields, "fields", [(None, ("d", "e", "f", "g")), (None, ("buf",) * 4)])
        two = {**GOOD, "arrays": (("buf", "cap"), ("bag", "size"))}
        self.assertIsNone(raised(InvalidFields, Container, **{**two, "fields": ("d", "e", "f")}).index)
        self.assertEqual(raised(InvalidFields, Container, **{**two, "fields": ("d", "bag")}).index, 1)
        three = {**GOOD, "arrays": (("buf", "cap"), ("bag", "size"), ("box", "big"))}
        self.assertIsNone(raised(InvalidFields, Container, **{**three, "fields": ("d", "e")}).index)

    def test_number_of_fields(self):
        for many in (1, 2, 3):
            arrays = tuple((f"a{at}", f"l{at}") for at in range(many))
            further = tuple(f"f{at}" for at in range(4 - many))
            begin = tuple((name, ZERO) for name in [length for _, length in arrays] + list(further))
            container = Container(arrays, further, (), All(), begin, All(), ((All(), ()),))
            self.assertEqual(len(container.fields), 4)

    def test_parameters(self):
        for wrong in STRANGE + NO_NAMES + ["n", True, 1]:
            self.check(InvalidParameters, "parameters", ("n", wrong), expected=1)
            self.check(InvalidParameters, "parameters", ("n", "m", wrong, wrong), expected=2)
        self.check_all(InvalidParameters, "parameters", [(None, ("n", "m", "o", "p", "q")), (None, ("n",) * 5)])
        Container(**with_changed(parameters=("n", "m", "cap", "buf")))

    def test_premise(self):
        for wrong in STRANGE + [True, 1, "all()", ZERO, Upto(ZERO, CAP), Below(N, Form.read("@")), Not(Below(LEN, N)), ()]:
            self.check(InvalidPremise, "premise", wrong, "value")

    def test_begin(self):
        begin = GOOD["begin"]
        for wrong in STRANGE + [True, 1, "ab", (), ("len",), ("len", ZERO, ZERO), ["len", ZERO], ("n", ZERO), ("buf", ZERO),
                                ("len", CAP), ("len", Form.read("@")), ("len", 0), ("len", "0"), (Liar(), ZERO), ("@", ZERO),
                                (None, ZERO), ("len", None), (["len"], ZERO)]:
            self.check(InvalidBegin, "begin", (wrong,) + begin[1:], expected=0)
            self.check(InvalidBegin, "begin", begin[:2] + (wrong,), expected=2)
        self.check(InvalidBegin, "begin", begin[:2] + begin[:1], expected=2)
        self.check(InvalidBegin, "begin", begin[:1] * 3, expected=1)
        self.check_all(InvalidBegin, "begin", [(None, begin[:2]), (None, begin + begin[:1]), (None, ()), (None, (1,) * 4)])

    def test_invariant(self):
        for wrong in STRANGE + [True, 1, "all()", ZERO, Upto(ZERO, N), Below(CAP, Form.read("@")), Below(Form(buf=1), CAP)]:
            self.check(InvalidInvariant, "invariant", wrong, "value")

    def test_cases(self):
        good = (Below(LEN, CAP), (("buf", ZERO, LEN, False),) * 3)
        for wrong in STRANGE + [True, 1, (), (All(),), (All(), (), ()), [All(), ()], ("all()", ()), (Upto(N, CAP), ()),
                                (Upto(Form.read("@"), CAP), ()), (None, ()), (All(), None), (All(), []), (All(), LEN),
                                (All(), good[1] + good[1][:1])]:
            self.check(InvalidCases, "cases", (wrong,), expected=0)
            self.check(InvalidCases, "cases", (good, good, wrong), expected=2)
        for wrong in STRANGE + [True, 1, (), "buf[0 .. len]", ("buf", ZERO, LEN), ("buf", ZERO, LEN, False, False),
                                ["buf", ZERO, LEN, False], ("cap", ZERO, LEN, False), ("view", ZERO, LEN, False),
                                (Liar(), ZERO, LEN, False), (None, ZERO, LEN, False), ("buf", 0, LEN, False),
                                ("buf", N, LEN, False), ("buf", ZERO, N, False), ("buf", ZERO, "len", False),
                                ("buf", ZERO, LEN, 0), ("buf", ZERO, LEN, 1), ("buf", ZERO, LEN, None),
                                ("buf", ZERO, LEN, Liar()), ("buf", Form.read("@"), LEN, False)]:
            self.check(InvalidCases, "cases", ((All(), (wrong,)),), expected=0)
            self.check(InvalidCases, "cases", (good, (All(), good[1][:2] + (wrong,))), expected=1)
        self.check_all(InvalidCases, "cases", [(None, ()), (None, (good,) * 4), (None, (None,) * 4)])
        self.assertEqual(len(Container(**with_changed(cases=(good,) * 3)).cases), 3)


class TextsTest(unittest.TestCase):
    def check(self, text):
        if is_container_text(text):
            self.assertEqual(str(Container.read(text)), text)
            return True
        self.assertEqual(raised(InvalidText, Container.read, text).value, text)
        return False

    def test_no_strings(self):
        for value in STRANGE + [True, 1, (), (TEXT,), Container(**GOOD), TEXT.encode()]:
            self.assertIs(raised(InvalidText, Container.read, value).value, value)

    def test_signs_changed(self):
        good = sum(self.check(text) for start in (TEXT, MANY) for text in changed(start))
        self.assertGreater(good, 50)

    def test_lines_changed(self):
        for start in (TEXT, MANY, str(ring()), str(stack())):
            self.assertTrue(self.check(start))
            good = sum(self.check(text) for text in altered_lines(start))
            self.assertGreater(good, 2)

    def test_parts_exchanged(self):
        texts = set()
        words = MANY.replace("\n", " \n ").split(" ")
        for one, other in itertools.combinations(range(len(words)), 2):
            swapped = list(words)
            swapped[one], swapped[other] = words[other], words[one]
            texts.add(" ".join(swapped).replace(" \n ", "\n"))
        good = sum(self.check(text) for text in sorted(texts))
        self.assertGreater(good, 20)

    def test_limits(self):
        base = "array a b\nparameters{}\npremise all()\nbegin b = 0\ninvariant {}\n{}"
        for parameters in range(7):
            for cases in range(5):
                for stretches in range(5):
                    case = "case all()" + "\n  a[0 .. b]" * stretches
                    names = "".join(f" p{at}" for at in range(parameters))
                    text = base.format(names, "all()", "\n".join([case] * cases))
                    self.assertIs(self.check(text), parameters <= 4 and 1 <= cases <= 3 and stretches <= 3)
        for inside, good in [(11, True), (12, False)]:
            text = base.format("", "all(" + ", ".join(["0 = b"] * inside) + ")", "case all()")
            self.assertIs(self.check(text), good)
        for arrays in range(5):
            for fields in range(5):
                rows = [f"array a{at} l{at}" for at in range(arrays)] + [f"field m{at}" for at in range(fields)]
                rows += ["parameters", "premise all()"] + [f"begin l{at} = 0" for at in range(arrays)]
                rows += [f"begin m{at} = 0" for at in range(fields)] + ["invariant all()", "case all()"]
                self.assertIs(self.check("\n".join(rows)), 1 <= arrays <= 3 and arrays + fields <= 4)

    def test_long_texts(self):
        for text in ("", "\n" * 3000, "  \n" * 1900, "array a b\n" * 600, TEXT + "\n  buf[0 .. len]" * 350,
                     TEXT + "\ncase all()" * 500, TEXT.replace("0 <= n", "not(" * 1400), "case all()\n" * 500):
            self.assertEqual(raised(InvalidText, Container.read, text).value, text)


class SoundTest(unittest.TestCase):
    def test_example(self):
        text = ("array buf cap\nfield len\nparameters n\npremise all()\nbegin cap = n\nbegin len = 0\ninvariant len <= cap\n"
                "case all()\n  buf[0 .. len]")
        stack = Container.read(text)
        self.assertEqual(
            [stack.fields, stack.arrays, str(stack.invariant), is_sound(stack),
             find_unsound(Container.read(text.replace("len <= cap", "cap <= len")))[0], repr(stack)],
            [("cap", "len"), (("buf", "cap"),), "len <= cap", True, "start", "Container(1 arrays, 2 fields)"])

    def has_view(self, container, fields):
        table = dict(fields)
        for condition, stretches in container.cases:
            if condition(fields):
                lengths = {array: table[length] for array, length in container.arrays}
                return all(0 <= first.evaluate(fields) <= last.evaluate(fields) <= lengths[array]
                           for array, first, last, _ in stretches)
        return False

    def is_bad(self, container, kind, values):
        """Whether values show that a container is not sound, by the words of point 10."""
        if kind == "start":
            begun = tuple((field, form.evaluate(values)) for field, form in container.begin)
            return container.premise(values) and all(worth >= 0 for _, worth in begun) and not container.invariant(begun)
        return container.invariant(values) and not self.has_view(container, values)

    def check(self, container, top=4):
        """The answer, held against all small values."""
        found = find_unsound(container)
        self.assertIs(is_sound(container), found is None)
        self.assertEqual(find_unsound(container), found)
        symbols = {"start": tuple(sorted(container.parameters)), "view": container.fields}
        small = {kind: any(self.is_bad(container, kind, tuple(zip(names, worths)))
                           for worths in itertools.product(range(top), repeat=len(names))) for kind, names in symbols.items()}
        if found is None:
            self.assertEqual(small, {"start": False, "view": False})
            return None
        kind, values = found
        self.assertIs(type(found), tuple)
        self.assertEqual(tuple(symbol for symbol, _ in values), symbols[kind])
        self.assertTrue(self.is_bad(container, kind, values), (str(container), found))
        if kind == "view":
            self.assertFalse(small["start"])
        return kind

    def test_catalog(self):
        for container in (ring(), stack()):
            self.assertIs(is_sound(container), True)
            self.assertIs(is_sound(container=container), True)
            self.assertIsNone(find_unsound(container=container))
            self.assertIsNone(self.check(container))

    def test_changes_of_the_ring(self):
        text = str(ring())
        for old, new, kind in [
            ("premise all()", "premise cap < 0", None), ("premise all()", "premise 0 < cap", None),
            ("begin head = 0", "begin head = cap", None), ("begin head = 0", "begin head = 2*cap", "start"),
            ("begin head = 0", "begin head = -cap", None), ("begin len = 0", "begin len = cap", None),
            ("head <= cap, ", "", "view"), (", len <= cap", "", "view"), ("len <= cap)", "len < cap)", "start"),
            ("case head + len <= cap", "case any()", "view"), ("case all()", "case any()", "view"),
            ("case all()", "case cap < head + len", None), ("case all()", "case cap <= 2*head", "view"),
            ("case head + len <= cap", "case head + len < cap", None), ("head .. cap]", "cap .. head]", "view"),
            ("-cap + head + len]", "-cap + head + len] reversed", None), ("invariant all(", "invariant any(", "view"),
            ("invariant all(head <= cap, len <= cap)", "invariant any()", "start"),
            ("-cap + head + len]", "head]", None), ("-cap + head + len]", "len]", None),
            ("-cap + head + len]", "2*len]", "view"),
        ]:
            self.assertIn(old, text)
            self.assertEqual(self.check(Container.read(text.replace(old, new, 1))), kind, (old, new))

    def test_only_great_sizes(self):
        text = ("array a l\nfield m\nparameters p q\npremise all(90*p < 89*q, 91*q < 93*p)\nbegin l = p\nbegin m = q\n"
                "invariant m < l\ncase all()\n  a[0 .. l]")
        self.assertEqual(find_unsound(Container.read(text))[0], "start")
        less = text.replace("91*q", "92*q")
        self.assertTrue(self.check(Container.read(less), 2) in ("start", None))
        view = text.replace("m < l", "all(90*m < 89*l, 87*l < 90*m)").replace("begin m = q", "begin m = 0").replace(
            "premise all(90*p < 89*q, 91*q < 93*p)", "premise any()").replace("a[0 .. l]", "a[0 .. 2*l - 2*m]")
        self.assertIsNone(find_unsound(Container.read(view)))
        self.assertEqual(find_unsound(Container.read(view.replace("2*l - 2*m", "60*l - 60*m")))[0], "view")

    def test_random_containers(self):
        chance = random.Random(8)
        found = {None: 0, "start": 0, "view": 0}
        for _ in range(250):
            fields, parameters = "abc", "cde"[:chance.randint(0, 3)]
            premise = chance.choice([All(), Upto(random_form(chance, parameters), random_form(chance, parameters))])
            begin = tuple((field, random_form(chance, parameters)) for field in fields)
            invariant = built(random_plan(chance, 3, 6))
            cases = tuple((chance.choice([built(random_plan(chance, 2, 4)), All(), Same(Form(a=1), Form(b=1))]),
                           tuple((chance.choice("xy"), random_form(chance), random_form(chance), chance.random() < 0.5)
                                 for _ in range(chance.randint(0, 2)))) for _ in range(chance.randint(1, 3)))
            container = Container((("x", "a"), ("y", "b")), ("c",), tuple(parameters), premise, begin, invariant, cases)
            self.assertEqual(Container.read(str(container)), container)
            self.assertTrue(is_container_text(str(container)))
            found[self.check(container)] += 1
        self.assertGreater(min(found.values()), 10)

    def test_sound_by_chance(self):
        # Two cases that leave nothing out, and stretches that the invariant keeps inside.
        for condition in ("a < b", "not(a = b)", "any(a < c, b < c)", "all(a <= b, b <= a)"):
            container = Container(
                (("x", "a"), ("y", "b")), ("c",), (), All(), (("a", ZERO), ("b", ZERO), ("c", ZERO)),
                read_condition("all(c <= a, c <= b)"),
                ((read_condition(condition), (("x", ZERO, Form(c=1), True),)), (Any(All()), (("y", ZERO, Form(c=1), False),))))
            self.assertIsNone(self.check(container))

    def test_no_container(self):
        for value in STRANGE + [True, 1, TEXT, (), Container, All()]:
            for call in (is_sound, find_unsound):
                self.assertIs(raised(NotAContainer, call, value).value, value)


if __name__ == "__main__":
    unittest.main()
