import random
import unittest

from blockmoves.catalog import ring, ring_pop, ring_push, ring_turn, stack, stack_drop, stack_push
from blockmoves.conditions import All, Below, Upto
from blockmoves.containers import Container
from blockmoves.errors import (
    InvalidBody, InvalidCount, InvalidInputs, InvalidName, InvalidOutputs, InvalidPremise, InvalidResults, InvalidSizes,
    InvalidText, InvalidView, NotAContainer, TooMany)
from blockmoves.forms import Form
from blockmoves.operations import Operation
from blockmoves.statements import Apart, Copy, Down, Fill, If, Let, Resize, Reverse, Swap, Up
from judges import altered_lines, is_operation_text
from samples import NAMES, NO_NAMES, STRANGE, Liar, changed, raised

CAP, HEAD, LEN, K, M, ZERO = Form(cap=1), Form(head=1), Form(len=1), Form(k=1), Form(m=1), Form()
LESS = Below(K, LEN)
BOX = Container.read("""array buf cap
array bag wide
field len
field head
parameters n
premise all()
begin cap = n
begin head = 0
begin len = 0
begin wide = n
invariant all()
case all()
  buf[0 .. len]""")
FIVE = [
    Copy("buf", HEAD, "given", ZERO, K), Let("head", K), Fill("out", ZERO, LEN, -7), Resize("bag", K + LEN),
    Swap("buf", HEAD, "bag", ZERO, K)]
GOOD = {
    "sizes": ("k",), "inputs": (("given", K),), "outputs": (("out", LEN - K), ("two", ZERO)), "premise": Upto(K, LEN),
    "body": (FIVE[0], If(LESS, (FIVE[1], FIVE[2]), (FIVE[3],)), FIVE[4]),
    "view": (("part", "view", K, LEN, False), ("fill", -3, K), ("part", "given", ZERO, K, True)),
    "results": ((("part", "view", ZERO, K, True),), (("fill", 12, ZERO),)),
}
NAMES_IN_ORDER = ["container", "name"] + list(GOOD)
TEXT = """operation some
size k
input given k
output out -k + len
output two 0
premise k <= len
body
  copy buf[head] given[0] (k)
  if k < len
    let head = k
    fill out[0] (len) -7
  else
    resize bag (k + len)
  end
  swap buf[head] bag[0] (k)
view
  view[k .. len]
  fill -3 (k)
  given[0 .. k] reversed
result out
  view[0 .. k] reversed
result two
  fill 12 (0)"""
KEYS = list(GOOD)


def some(**named):
    return Operation(BOX, "some", **{**GOOD, **named})


class MadeTest(unittest.TestCase):
    def test_example(self):
        push = Operation.read(
            stack(), "operation push\nsize k\ninput given k\npremise k + len <= cap\nbody\n  if 0 < k\n    "
            "copy buf[len] given[0] (k)\n  end\n  let len = k + len\nview\n  view[0 .. len]\n  given[0 .. k]")
        self.assertEqual(
            [push.unknowns, push.places, str(push.statement(1)), push.statement(1).source, push.view[1][:2], repr(push)],
            [("cap", "k", "len"), 3, "copy buf[len] given[0] (k)", "given", ("part", "given"), "Operation(push)"])

    def test_properties(self):
        for operation in (some(), Operation(name="some", container=BOX, **GOOD), Operation.read(BOX, TEXT),
                          Operation.read(text=TEXT, container=BOX)):
            self.assertEqual(str(operation), TEXT)
            self.assertEqual(repr(operation), "Operation(some)")
            self.assertEqual(operation.container, BOX)
            self.assertEqual(operation.name, "some")
            for name, value in GOOD.items():
                self.assertEqual(getattr(operation, name), value)
                self.assertTrue(name == "premise" or type(getattr(operation, name)) is tuple)
            self.assertEqual(operation.unknowns, ("cap", "head", "k", "len", "wide"))
            self.assertEqual(operation.places, 6)
            statements = [FIVE[0], GOOD["body"][1]] + FIVE[1:]
            self.assertEqual([operation.statement(place) for place in range(6)], statements)
            self.assertEqual(operation.statement(place=3), FIVE[2])
            self.assertTrue(is_operation_text(BOX, str(operation)))

    def test_left_out(self):
        operation = Operation(BOX, "none")
        text = "operation none\npremise all()\nbody\nview"
        self.assertEqual((str(operation), operation.premise, operation.places), (text, All(), 0))
        self.assertEqual(operation, Operation(BOX, "none", premise=All()))
        self.assertEqual(operation, Operation(BOX, "none", premise=None))
        self.assertEqual(operation, Operation.read(BOX, text))
        self.assertEqual((operation.sizes, operation.inputs, operation.outputs, operation.body, operation.view,
                          operation.results), ((), (), (), (), (), ()))
        self.assertEqual(operation.unknowns, BOX.fields)
        with self.assertRaises(TypeError):
            Operation(BOX, "none", ("k",))

    def test_order_of_places(self):
        inner = If(LESS, (FIVE[1],), (FIVE[2], FIVE[3]))
        operation = some(body=(If(LESS, (inner, FIVE[4]), (FIVE[0],)), If(LESS, ()), FIVE[1]))
        places = [operation.body[0], inner, FIVE[1], FIVE[2], FIVE[3], FIVE[4], FIVE[0], operation.body[1], FIVE[1]]
        self.assertEqual([operation.statement(place) for place in range(operation.places)], places)

    def test_no_place(self):
        for value in STRANGE + [-1, 6, 7, True, False, "0", (0,), 10 ** 30, -10 ** 30, FIVE[0]]:
            self.assertIs(raised(InvalidCount, some().statement, value).value, value)
        self.assertEqual(raised(InvalidCount, Operation(BOX, "none").statement, 0).value, 0)

    def test_equal(self):
        other = Container.read(str(BOX).replace("parameters n", "parameters n m"))
        made = [some(), Operation(other, "some", **GOOD), Operation(BOX, "other", **GOOD), some(premise=LESS), some(body=()),
                some(view=()), some(results=((), ())), some(inputs=(("given", K + K),)), some(sizes=("k",), outputs=(), body=(), results=()),
                some(body=GOOD["body"][:2] + (Swap("bag", ZERO, "buf", HEAD, K),)), ring_push(), stack_push()]
        for at, first in enumerate(made):
            for other_at, second in enumerate(made):
                self.assertIs(first == second, at == other_at)
                self.assertIs(first != second, at != other_at)
        self.assertEqual(some(), Operation(Container.read(str(BOX)), "some", **GOOD))
        for value in [TEXT, None, BOX, Operation] + [value for value in STRANGE if not isinstance(value, Liar)]:
            self.assertIs(some() == value, False)
            self.assertIs(some() != value, True)

    def test_catalog(self):
        for container, operation in ((ring(), ring_push()), (ring(), ring_pop()), (ring(), ring_turn()),
                                     (stack(), stack_push()), (stack(), stack_drop())):
            self.assertEqual(operation.container, container)
            self.assertEqual(Operation.read(container, str(operation)), operation)
            self.assertTrue(is_operation_text(container, str(operation)))


class WrongArgumentsTest(unittest.TestCase):
    def check(self, error, name, value, field="index", expected=None):
        for later in ({}, {other: None for other in KEYS[KEYS.index(name) + 1:]}):
            found = raised(error, Operation, BOX, "some", **{**GOOD, name: value, **later})
            self.assertIs(type(found), error)
            if field == "value":
                self.assertIs(found.value, value)
            else:
                self.assertEqual(getattr(found, field), expected)

    def check_no_tuples(self, error, name, field="index"):
        for value in STRANGE + [True, 1, "", "ab", LEN, All(), BOX, list(GOOD["body"])]:
            self.check(error, name, value, field)

    def test_container_and_name(self):
        for value in STRANGE + [True, 1, str(BOX), (), some(), Container]:
            for name in ("some", None):
                self.assertIs(raised(NotAContainer, Operation, value, name, sizes=None).value, value)
        for value in STRANGE + NO_NAMES + [True, 1, (), LEN]:
            self.assertIs(raised(InvalidName, Operation, BOX, value, sizes=None).value, value)
        for name in NAMES:
            self.assertEqual(repr(Operation(BOX, name)), f"Operation({name})")

    def test_sizes(self):
        self.check_no_tuples(InvalidSizes, "sizes")
        self.check(InvalidSizes, "sizes", ("k", "m"), expected=None)
        self.check(InvalidSizes, "sizes", ("len", None), expected=None)
        small = stack()
        self.assertEqual(len(Operation(small, "a", sizes=("k", "m", "n")).unknowns), 5)
        self.assertIsNone(raised(InvalidSizes, Operation, small, "a", sizes=("k", "m", "n", "o")).index)
        for wrong in STRANGE + NO_NAMES + ["buf", "cap", "len", True, 1]:
            self.check(InvalidSizes, "sizes", (wrong,), expected=0)
            self.assertEqual(raised(InvalidSizes, Operation, small, "a", sizes=("k", wrong), body=None).index, 1)
        self.assertEqual(raised(InvalidSizes, Operation, small, "a", sizes=("k", "m", "k")).index, 2)
        # The names of parameters are free.
        self.assertEqual(Operation(small, "a", sizes=("n",)).unknowns, ("cap", "len", "n"))

    def test_inputs_and_outputs(self):
        for error, name in ((InvalidInputs, "inputs"), (InvalidOutputs, "outputs")):
            self.check_no_tuples(error, name)
            good = ("x", ZERO)
            self.check(error, name, (good, ("y", ZERO), ("z", ZERO)))
            self.check(error, name, (None,) * 3)
            for wrong in STRANGE + [True, 1, "ab", (), ("y",), ("y", ZERO, ZERO), ["y", ZERO], ("buf", ZERO), ("bag", ZERO),
                                    ("cap", ZERO), ("len", ZERO), ("k", ZERO), ("view", ZERO), ("y", 0), ("y", "0"), ("y", M),
                                    ("y", Form.read("@")), ("y", Form(n=1)), (Liar(), ZERO), (None, ZERO), ("y", None), ("@", ZERO),
                                    ("Y", ZERO)]:
                self.check(error, name, (wrong,), expected=0)
                self.check(error, name, (good, wrong), expected=1)
            self.check(error, name, (good, good), expected=1)
        self.check(InvalidOutputs, "outputs", (("given", ZERO),), expected=0)
        self.check(InvalidOutputs, "outputs", (("out", ZERO), ("given", ZERO)), expected=1)
        two = Operation(BOX, "two", inputs=(("a", CAP), ("b", HEAD)), outputs=(("c", LEN), ("n", CAP)), results=((), ()))
        self.assertEqual(Operation.read(BOX, str(two)), two)

    def test_premise(self):
        for wrong in STRANGE[1:] + [True, 1, "all()", ZERO, Upto(ZERO, M), Upto(Form(n=1), K), Below(K, Form.read("@")), ()]:
            self.check(InvalidPremise, "premise", wrong, "value")

    def test_body(self):
        self.check_no_tuples(InvalidBody, "body", "place")
        for wrong in STRANGE + [True, 1, "let head = k", (FIVE[1],), Let, LESS]:
            self.check(InvalidBody, "body", (FIVE[1], wrong), "place")
            self.check(InvalidBody, "body", (Let("nofield", K), wrong), "place")
        wrong = [
            Let("cap", K), Let("wide", K), Let("k", K), Let("buf", K), Let("n", K), Let("out", K), Let("head", M),
            Let("head", Form.read("@")), Let("head", Form(n=1)), Let("head", Form(given=1)), Resize("out", K), Resize("given", K),
            Resize("cap", K), Resize("buf", M), Resize("box", K), Reverse("given", K, K), Reverse("box", K, K),
            Reverse("buf", M, K), Reverse("buf", K, M), Fill("given", K, K, 0), Fill("len", K, K, 0), Fill("out", M, K, 0),
            Fill("out", K, M, 0), Swap("given", K, "buf", K, K), Swap("buf", K, "given", K, K), Swap("buf", K, "box", K, K),
            Swap("k", K, "buf", K, K), Swap("buf", M, "buf", K, K), Swap("buf", K, "buf", M, K), Swap("buf", K, "buf", K, M),
            If(Below(M, K), ()), If(Below(K, Form.read("@")), (), ()), If(Below(K, Form(out=1)), (FIVE[1],))]
        for kind in (Copy, Up, Down, Apart):
            wrong += [kind("given", K, "buf", K, K), kind("box", K, "buf", K, K), kind("buf", K, "box", K, K),
                      kind("buf", K, "len", K, K), kind("cap", K, "buf", K, K), kind("buf", M, "buf", K, K),
                      kind("buf", K, "buf", M, K), kind("buf", K, "buf", K, M), kind("buf", K, "n", K, K)]
        for statement in wrong:
            self.check(InvalidBody, "body", (statement,), "place", 0)
            self.check(InvalidBody, "body", GOOD["body"] + (statement, statement), "place", 6)
            self.check(InvalidBody, "body", (If(LESS, (FIVE[1], statement), (statement,)),), "place", 2)
            self.check(InvalidBody, "body", (If(LESS, (If(LESS, (FIVE[0],)),), (statement,)), statement), "place", 3)
            # Wrong uses come before too many statements.
            self.check(InvalidBody, "body", (FIVE[1],) * 50 + (statement,), "place", 50)
        self.check(InvalidBody, "body", (If(Below(M, K), (wrong[0],)),), "place", 0)

    def test_right_uses(self):
        for statement in [Let("head", CAP + K), Let("len", -K), Resize("buf", ZERO), Resize("bag", -K), Reverse("out", K, K),
                          Reverse("bag", K, K), Fill("two", K, K, 0), Swap("buf", K, "out", K, K), Swap("out", K, "two", K, K),
                          Swap("buf", K, "buf", K, K), Copy("out", K, "given", K, K), Up("buf", K, "out", K, K),
                          Down("out", K, "out", K, K), Apart("bag", K, "buf", K, K), If(Below(K, CAP), (), ())]:
            operation = some(body=(statement,))
            self.assertEqual(operation.statement(0), statement)
            self.assertEqual(Operation.read(BOX, str(operation)), operation)

    def check_many(self, body, limit):
        if limit is None:
            operation = some(body=body)
            self.assertEqual(Operation.read(BOX, str(operation)), operation)
            return
        for later in ({}, {"view": None, "results": None}):
            found = raised(TooMany, some, body=body, **later)
            self.assertEqual(found.limit, limit)
        text = TEXT.split("body\n")[0] + "\n".join(["body"] + ["  " + line for one in body for line in one.lines] + ["view"])
        text += "\nresult out\nresult two"
        self.assertEqual(raised(InvalidText, Operation.read, BOX, text).value, text)

    def test_too_many(self):
        let, move, test = FIVE[1], FIVE[0], If(LESS, ())
        for body, limit in [
            ((let,) * 40, None), ((let,) * 41, 40), ((move,) * 41, 40), ((test,) * 41, 40),
            ((If(LESS, (let,) * 20, (let,) * 19),), None), ((If(LESS, (let,) * 20, (let,) * 20),), 40),
            ((move,) * 5 + (let,) * 35, None), ((move,) * 6, 5), ((move,) * 6 + (test,) * 5, 5),
            (tuple(FIVE[:1] + FIVE[2:] + [Reverse("buf", K, K)]), None), (tuple(FIVE + [Reverse("buf", K, K), move]), 5),
            ((If(LESS, (move,) * 5, (move,) * 5),), None), ((If(LESS, (move,) * 5, (move,) * 6),), 5),
            ((If(LESS, (move,) * 6, (move,) * 5),), 5), ((If(LESS, (move,) * 4, (move,) * 2), move), None),
            ((If(LESS, (move,) * 2, (move,) * 4), move, move), 5),
            ((move, If(LESS, (move,), (If(LESS, (move, move), (move,)),)), move, move, move), 5),
            ((move, If(LESS, (move,), (If(LESS, (move, move), (move,)),)), move, move), None),
            ((test,) * 4, None), ((test,) * 5, 4), ((let, move) + (test,) * 5 + (let, let), 4),
            ((If(LESS, (let, test, move, test, test, test, let)),), 4), ((let, test, let, test, test, test), None), ((If(LESS, (test, test), (test, test, test)),), None),
            ((If(LESS, (test, test), (test, test, test)), test), 4), ((If(LESS, (test,) * 4),), 4),
            ((If(LESS, (), (test,) * 4),), 4), ((test, If(LESS, (test,), (test, test)), test), 4),
            ((If(LESS, (If(LESS, (If(LESS, (test,)),)),)),), None), ((If(LESS, (If(LESS, (If(LESS, (test,)),)),)), test), 4),
        ]:
            self.check_many(body, limit)

    def test_pieces(self):
        wrong = STRANGE + [True, 1, "view[0 .. k]", (), ("part",), ("fill",), ("part", "view", ZERO, K), ["fill", 0, K],
                           ("part", "view", ZERO, K, False, False), ["part", "view", ZERO, K, False],
                           ("part", "buf", ZERO, K, False), ("part", "out", ZERO, K, False), ("part", "k", ZERO, K, False),
                           ("part", "some", ZERO, K, False), ("part", None, ZERO, K, False), ("part", Liar(), ZERO, K, False),
                           ("part", "view", M, K, False), ("part", "view", ZERO, M, False), ("part", "view", 0, K, False),
                           ("part", "view", ZERO, "k", False), ("part", "view", ZERO, K, 0), ("part", "view", ZERO, K, 1),
                           ("part", "view", ZERO, K, None), ("part", "view", ZERO, Form.read("@"), True),
                           ("view", ZERO, K, False), (Liar(), "view", ZERO, K, False), (Liar(), 0, K), ("fill", 0, K, K),
                           ("fill", 0), ("fill", True, K), ("fill", "0", K), ("fill", None, K), ("fill", K, 0), ("fill", 0, M),
                           ("fill", 0, 0), ("fill", 0, Form.read("@")), ("fills", 0, K), ("fill", Liar(), K), (b"fill", 0, K)]
        self.check_no_tuples(InvalidView, "view")
        good = ("fill", 0, K)
        for value in wrong:
            self.check(InvalidView, "view", (value,), expected=0)
            self.check(InvalidView, "view", (good, good, value, value), expected=2)
            self.check(InvalidResults, "results", ((value,), ()), expected=0)
            self.check(InvalidResults, "results", ((good,), (good, good, good, value)), expected=1)
            self.check(InvalidResults, "results", ((good,), value) if value != () else ((good,), None), expected=1)
        self.check(InvalidView, "view", (good,) * 5)
        self.check(InvalidView, "view", (None,) * 5)
        self.assertEqual(len(some(view=(good,) * 4).view), 4)
        self.check_no_tuples(InvalidResults, "results")
        for value in ((), ((),), ((), (), ()), ((good,),), (None,), (None,) * 3):
            self.check(InvalidResults, "results", value)
        self.check(InvalidResults, "results", ((good,) * 4, (good,) * 5), expected=1)
        self.check(InvalidResults, "results", ([good], ()), expected=0)
        self.assertEqual(some(results=((good,) * 4, ())).results[0], (good,) * 4)
        self.assertIsNone(raised(InvalidResults, Operation, BOX, "a", results=((),)).index)


class TextsTest(unittest.TestCase):
    def check(self, container, text):
        if is_operation_text(container, text):
            self.assertEqual(str(Operation.read(container, text)), text)
            return True
        self.assertEqual(raised(InvalidText, Operation.read, container, text).value, text)
        return False

    def test_wrong_kinds(self):
        for value in STRANGE + [True, 1, str(BOX), (), some()]:
            for text in (TEXT, None, "no"):
                self.assertIs(raised(NotAContainer, Operation.read, value, text).value, value)
        for value in STRANGE + [True, 1, (), (TEXT,), some(), TEXT.encode()]:
            self.assertIs(raised(InvalidText, Operation.read, BOX, value).value, value)

    def test_another_container(self):
        self.check(BOX, str(ring_push()))
        self.assertFalse(self.check(stack(), TEXT))
        self.assertFalse(self.check(stack(), str(ring_push())))
        # A text may well be one on another container, too.
        self.assertTrue(self.check(ring(), str(stack_drop())))

    def test_signs_changed(self):
        good = 0
        for container, start in ((BOX, TEXT), (stack(), str(stack_push()))):
            good += sum(self.check(container, text) for text in changed(start))
        self.assertGreater(good, 50)

    def test_lines_changed(self):
        for container, start in ((BOX, TEXT), (ring(), str(ring_push())), (ring(), str(ring_pop())), (stack(), str(stack_drop()))):
            self.assertTrue(self.check(container, start))
            self.assertGreater(sum(self.check(container, text) for text in altered_lines(start)), 30)

    def test_words_exchanged(self):
        chance = random.Random(9)
        good = 0
        words = TEXT.replace("\n", " \n ").split(" ")
        for _ in range(2500):
            changed_words = list(words)
            one, other = chance.randrange(len(words)), chance.randrange(len(words))
            changed_words[one], changed_words[other] = words[other], words[one]
            good += self.check(BOX, " ".join(changed_words).replace(" \n ", "\n"))
        self.assertGreater(good, 50)

    def test_long_texts(self):
        head, tail = TEXT.split("body\n")[0] + "body\n", "view\nresult out\nresult two"
        for middle, good in [("", True), ("  let head = k\n" * 41, False), ("  if k < len\n  end\n" * 4, True),
                             ("  if k < len\n  end\n" * 5, False), ("  if k < len\n" * 300, False), ("  end\n" * 800, False),
                             ("  else\n" * 700, False), ("  if k < len\n" * 100 + "  end\n" * 100, False),
                             ("  let head = k\n" * 40, True)]:
            self.assertIs(self.check(BOX, head + middle + tail), good)
        for depth in range(7):
            rows = ["  " * at + "  if k < len\n" for at in range(depth)] + ["  " * at + "  end\n" for at in reversed(range(depth))]
            self.assertIs(self.check(BOX, head + "".join(rows) + tail), depth <= 4)
        for text in ("", "\n" * 100, "operation a", "operation a\npremise all()\nbody\nview\nview", TEXT + "\n", "body\n" * 900):
            self.assertFalse(self.check(BOX, text))

    def test_letters(self):
        for letter, good in [("0", True), ("-0", False), ("7", True), ("07", False), ("-7", True), ("+7", False), ("1_0", False),
                             ("", False), ("a", False), ("- 7", False), ("--7", False), ("1" * 30, True), ("-" + "9" * 60, True),
                             ("0x1", False), ("1.0", False), ("1e3", False), ("00", False), ("k", False)]:
            for old, new in [("(len) -7", f"(len) {letter}"), ("fill -3 ", f"fill {letter} ")]:
                self.assertIs(self.check(BOX, TEXT.replace(old, new)), good, letter)


if __name__ == "__main__":
    unittest.main()
