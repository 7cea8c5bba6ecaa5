import unittest

from blockmoves.conditions import All, Below, Upto
from blockmoves.errors import InvalidBranch, InvalidLetter, InvalidName, NotACondition, NotAForm, TooMany
from blockmoves.forms import Form
from blockmoves.statements import Apart, Copy, Down, Fill, If, Let, Resize, Reverse, Statement, Swap, Up
from samples import GREAT, NO_NAMES, STRANGE, Liar, raised

A, B, K, ZERO = Form(a=1), Form(b=1), Form(k=1), Form()
LESS = Below(A, B)
LET = Let("a", B)

# (class, arguments by their names, the line)
PLAIN = [
    (Let, {"field": "head", "form": K - A}, "let head = -a + k"),
    (Let, {"field": "a", "form": ZERO}, "let a = 0"),
    (Copy, {"target": "x", "to": A, "source": "y", "start": B * 2, "amount": K - A}, "copy x[a] y[2*b] (-a + k)"),
    (Up, {"target": "x", "to": ZERO, "source": "x", "start": A, "amount": K}, "up x[0] x[a] (k)"),
    (Down, {"target": "x", "to": A, "source": "x", "start": ZERO, "amount": K}, "down x[a] x[0] (k)"),
    (Apart, {"target": "x", "to": A, "source": "z9", "start": ZERO, "amount": ZERO}, "apart x[a] z9[0] (0)"),
    (Reverse, {"array": "x", "start": A, "amount": K}, "reverse x[a] (k)"),
    (Swap, {"first": "x", "at": A, "second": "y", "start": B, "amount": K}, "swap x[a] y[b] (k)"),
    (Fill, {"array": "x", "start": A, "amount": K, "letter": 0}, "fill x[a] (k) 0"),
    (Fill, {"array": "x", "start": A, "amount": K, "letter": -12}, "fill x[a] (k) -12"),
    (Fill, {"array": "x", "start": A, "amount": K, "letter": GREAT}, f"fill x[a] (k) {GREAT}"),
    (Resize, {"array": "x", "length": A * 2 + K}, "resize x (2*a + k)"),
]
KINDS = [Let, Copy, Up, Down, Apart, Reverse, Swap, Fill, Resize, If]
NAMED = ("field", "target", "source", "array", "first", "second")


def made(kind):
    return [statement for one, named, _ in PLAIN if one is kind for statement in [kind(**named)]] or [If(LESS, (LET,))]


def nested(depth, inner=()):
    """So many Ifs inside one another."""
    for _ in range(depth):
        inner = (If(LESS, inner),)
    return inner


class PlainTest(unittest.TestCase):
    def test_made(self):
        for kind, named, line in PLAIN:
            for statement in (kind(**named), kind(*named.values())):
                self.assertEqual(statement.lines, (line,))
                self.assertIs(type(statement.lines), tuple)
                self.assertEqual(str(statement), line)
                self.assertEqual(repr(statement), f"Statement({line})")
                self.assertEqual(statement.WORD, line.split(" ")[0])
                self.assertEqual(kind.WORD, line.split(" ")[0])
                for name, value in named.items():
                    self.assertIs(getattr(statement, name), value)

    def test_instances(self):
        for kind in KINDS:
            for statement in made(kind):
                self.assertIsInstance(statement, Statement)
                for other in KINDS:
                    expected = other is kind or (other is Copy and kind in (Up, Down, Apart))
                    self.assertIs(isinstance(statement, other), expected)

    def test_equal(self):
        statements = [kind(**named) for kind, named, _ in PLAIN]
        statements += [Let("head", K), Copy("x", A, "y", B, K), Copy("x", A, "x", ZERO, K), Reverse("x", A, A),
                       Reverse("y", A, K), Resize("y", A), Fill("x", A, K, 12), If(LESS, ()), If(LESS, (LET,))]
        for at, one in enumerate(statements):
            for other_at, other in enumerate(statements):
                self.assertIs(one == other, at == other_at)
                self.assertIs(one != other, at != other_at)
        for kind, named, line in PLAIN:
            self.assertEqual(kind(**named), kind(**named))
            for value in [None, 1, line, (line,), kind, A, LESS] + [value for value in STRANGE if not isinstance(value, Liar)]:
                self.assertIs(kind(**named) == value, False)
                self.assertIs(kind(**named) != value, True)
        self.assertEqual(Let("a", A + B - A), Let("a", B))

    def test_wrong_arguments(self):
        for kind, named, _ in PLAIN:
            names = list(named)
            for at, name in enumerate(names):
                wrong, error = STRANGE + [True, False, 1, (), ("a",), LESS, LET], NotAForm
                if name in NAMED:
                    wrong, error = wrong + NO_NAMES + [A], InvalidName
                elif name == "letter":
                    wrong, error = [value for value in wrong if value != 1 or value is True] + ["1", "", A], InvalidLetter
                else:
                    wrong = wrong + ["a", ""]
                for value in wrong:
                    # What stands behind the first wrong argument is not looked at.
                    for later in (named, {other: None for other in named}):
                        given = {**named, **{other: later[other] for other in names[at:]}, name: value}
                        found = raised(error, kind, **given)
                        self.assertIs(type(found), error)
                        self.assertIs(found.value, value)

    def test_nothing_missing(self):
        for kind, named, _ in PLAIN:
            for name in named:
                with self.assertRaises(TypeError):
                    kind(**{other: value for other, value in named.items() if other != name})


class IfTest(unittest.TestCase):
    def test_example(self):
        k, head = Form(k=1), Form(head=1)
        one = If(Below(k, head), (Up("buf", k, "buf", head - k, k),), (Let("head", k),))
        self.assertEqual(
            [one.lines, isinstance(one.then[0], Copy), Up.WORD, one.then[0].start.symbols],
            [("if k < head", "  up buf[k] buf[head - k] (k)", "else", "  let head = k", "end"), True, "up", ("head", "k")])

    def test_lines(self):
        fill = Fill("x", A, K, 7)
        for then, otherwise, lines in [
            ((), (), ("if a < b", "end")),
            ((LET,), (), ("if a < b", "  let a = b", "end")),
            ((), (LET,), ("if a < b", "else", "  let a = b", "end")),
            ((LET, fill), (fill, LET), ("if a < b", "  let a = b", "  fill x[a] (k) 7", "else", "  fill x[a] (k) 7",
                                        "  let a = b", "end")),
            ((If(LESS, (LET,)), fill), (If(LESS, (), (fill,)),),
             ("if a < b", "  if a < b", "    let a = b", "  end", "  fill x[a] (k) 7", "else", "  if a < b", "  else",
              "    fill x[a] (k) 7", "  end", "end")),
        ]:
            for one in (If(LESS, then, otherwise), If(condition=LESS, then=then, otherwise=otherwise)):
                self.assertEqual((one.lines, str(one), repr(one)), (lines, "\n".join(lines), "Statement(if a < b)"))
                self.assertEqual((one.condition, one.then, one.otherwise), (LESS, then, otherwise))
                self.assertEqual(one.WORD, "if")
        self.assertEqual(If(LESS, (LET,)), If(LESS, (LET,), ()))
        self.assertEqual(If(LESS, (LET,)).otherwise, ())
        self.assertEqual(If(then=(), condition=All()).lines, ("if all()", "end"))
        self.assertNotEqual(If(LESS, (LET,)), If(LESS, (), (LET,)))
        self.assertNotEqual(If(LESS, ()), If(Upto(A, B), ()))
        self.assertEqual(If(LESS, nested(3)).lines[3], "      if a < b")

    def test_errors_in_order(self):
        bad, five = (LET, None, LET, 3), nested(4)
        for value in STRANGE + [True, 1, "a < b", A, LET, ()]:
            self.assertIs(raised(NotACondition, If, value, bad, bad).value, value)
            self.assertIs(raised(NotACondition, If, value, five).value, value)
        for value in STRANGE + [True, 1, "", "ab", A, LESS, LET, [], [LET]]:
            self.assertIsNone(raised(InvalidBranch, If, LESS, value, bad).index)
            self.assertIsNone(raised(InvalidBranch, If, LESS, value, five).index)
            self.assertIsNone(raised(InvalidBranch, If, LESS, (), value).index)
            self.assertIsNone(raised(InvalidBranch, If, LESS, five, value).index)
        for value in STRANGE + [True, 1, "let a = b", A, LESS, (), (LET,), Statement, Let]:
            self.assertEqual(raised(InvalidBranch, If, LESS, (value, value), None).index, 0)
            self.assertEqual(raised(InvalidBranch, If, LESS, five + (value,), (value,)).index, 1)
            self.assertEqual(raised(InvalidBranch, If, LESS, five, (LET, LET, value)).index, 2)

    def test_depth(self):
        for depth in range(1, 5):
            self.assertEqual(len(nested(depth)[0].lines), 2 * depth)
        for inside in (nested(4), nested(4, (LET,)), (LET,) + nested(4), nested(3, (LET, If(LESS, (), (LET,))))):
            for then, otherwise in ((inside, ()), ((), inside), (inside, inside)):
                error = raised(TooMany, If, LESS, then, otherwise)
                self.assertEqual(error.limit, 4)
        # Four inside one another in both branches are let, and many beside one another.
        If(LESS, nested(3), nested(3))
        If(LESS, tuple(nested(3)[0] for _ in range(20)))


if __name__ == "__main__":
    unittest.main()
