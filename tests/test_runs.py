import itertools
import random
import unittest

from blockmoves.catalog import ring, ring_pop, ring_push, ring_turn, stack, stack_drop, stack_push
from blockmoves.containers import Container
from blockmoves.errors import (
    InvalidInputs, InvalidState, InvalidValues, NotAContainer, NotAllowed, NotAnOperation, Stopped)
from blockmoves.operations import Operation
from blockmoves.runs import is_allowed, promised, run, view_of
from samples import GREAT, STRANGE, raised
from simulator import (
    Halt, call_parts, holds, made_of, random_container, random_operation, seen, simulated, small_values, split_values)

ROW = Container.read("""array x n
parameters n
premise all()
begin n = n
invariant all()
case all()
  x[0 .. n]""")
MOVES = ["copy x[t] x[s] (m)", "up x[t] x[s] (m)", "down x[t] x[s] (m)", "apart x[t] x[s] (m)", "swap x[t] x[s] (m)"]
LIMBS = Container.read("""array buf cap
array bag wide
field at
parameters
premise all()
begin at = 0
begin cap = 0
begin wide = 0
invariant at <= cap
case at = 0
case at < wide
  buf[0 .. at] reversed
  bag[at .. wide]
  buf[at .. cap]
case at = wide
  buf[0 .. at] reversed""")


def moving(line, names="tsm"):
    sizes = "".join(f"size {name}\n" for name in names)
    return Operation.read(ROW, f"operation some\n{sizes}premise all()\nbody\n  {line}\nview")


def outcome(call, *args):
    """What a run or a simulation comes to."""
    try:
        return call(*args)
    except (Stopped, Halt) as stop:
        return stop.place, stop.kind


class RunTest(unittest.TestCase):
    def test_examples(self):
        before, cells = (("cap", 5), ("len", 4)), ((1, 2, 3, 4, 9),)
        fields, after, outputs, cost = run(stack_drop(), before, cells, (("k", 1),))
        self.assertEqual(
            [fields, after, outputs, cost, view_of(stack(), fields, after), promised(stack_drop(), before, cells, (("k", 1),))],
            [(("cap", 5), ("len", 3)), ((2, 3, 4, 4, 9),), ((1,),), 4, (2, 3, 4), ((2, 3, 4), ((1,),))])
        error = raised(Stopped, run, stack_drop(), (("cap", 2), ("len", 0)), ((1, 2),), (("k", 2),))
        self.assertEqual((error.place, error.kind), (1, "amount"))

    def test_blocks_of_one_row(self):
        # Blocks that touch, share one cell or more, in both directions, amount 0 and blocks at the ends: all up to 5 cells.
        kinds = set()
        for line in MOVES:
            operation = moving(line)
            for t, s, m in itertools.product(range(6), repeat=3):
                call = ((("n", 5),), ((1, 2, 3, 4, 5),), (("m", m), ("s", s), ("t", t)))
                found = outcome(run, operation, *call)
                self.assertEqual(found, outcome(simulated, operation, *call), (line, t, s, m))
                kinds.add((line[:2], found[1] if len(found) == 2 else None))
        self.assertEqual(kinds, {(word, kind) for word in ("co", "up", "do", "ap", "sw") for kind in (None, "range")}
                         | {("up", "clobber"), ("do", "clobber"), ("ap", "overlap"), ("sw", "overlap")})

    def test_explicit_moves(self):
        row = (1, 2, 3, 4, 5)

        def done(line):
            fields, cells, outputs, cost = run(moving(line, "k"), (("n", 5),), (row,), (("k", 1),))
            self.assertEqual((fields, outputs), ((("n", len(cells[0])),), ()))
            return cells[0], cost

        for line, expected in [
            ("copy x[0] x[k] (4*k)", ((2, 3, 4, 5, 5), 4)), ("copy x[k] x[0] (4*k)", ((1, 1, 2, 3, 4), 4)),
            ("up x[0] x[k] (4*k)", ((2, 3, 4, 5, 5), 4)), ("down x[k] x[0] (4*k)", ((1, 1, 2, 3, 4), 4)),
            ("up x[k] x[k] (4*k)", (row, 4)), ("down x[k] x[k] (4*k)", (row, 4)), ("up x[2*k] x[0] (2*k)", ((1, 2, 1, 2, 5), 2)),
            ("down x[0] x[2*k] (2*k)", ((3, 4, 3, 4, 5), 2)), ("apart x[2*k] x[0] (2*k)", ((1, 2, 1, 2, 5), 2)),
            ("apart x[0] x[3*k] (2*k)", ((4, 5, 3, 4, 5), 2)), ("apart x[k] x[k] (0)", (row, 0)),
            ("reverse x[k] (3*k)", ((1, 4, 3, 2, 5), 3)), ("reverse x[0] (n)", ((5, 4, 3, 2, 1), 5)),
            ("reverse x[n] (0)", (row, 0)), ("swap x[0] x[3*k] (2*k)", ((4, 5, 3, 1, 2), 4)),
            ("swap x[n] x[n] (0)", (row, 0)), ("fill x[k] (2*k) -8", ((1, -8, -8, 4, 5), 2)), ("fill x[n] (0) 1", (row, 0)),
            (f"fill x[4*k] (k) {GREAT}", ((1, 2, 3, 4, GREAT), 1)),
            ("resize x (3*k)", ((1, 2, 3), 3)), ("resize x (7*k)", ((1, 2, 3, 4, 5, 0, 0), 7)), ("resize x (0)", ((), 0)),
            ("resize x (n)", (row, 5)), ("if k < n\n    fill x[0] (k) 9\n  end", ((9, 2, 3, 4, 5), 1)),
            ("if n < k\n    fill x[0] (k) 9\n  end", (row, 0)), ("if n < k\n  else\n    fill x[0] (k) 9\n  end", ((9, 2, 3, 4, 5), 1)),
            ("if n < k\n  end", (row, 0)), ("resize x (2*k)\n  resize x (2*n)", ((1, 2, 0, 0), 6)),
        ]:
            self.assertEqual(done(line), expected, line)
        for line, place, kind in [
            ("up x[k] x[0] (2*k)", 0, "clobber"), ("down x[0] x[k] (2*k)", 0, "clobber"), ("apart x[0] x[k] (2*k)", 0, "overlap"),
            ("swap x[k] x[0] (2*k)", 0, "overlap"), ("swap x[k] x[k] (k)", 0, "overlap"), ("copy x[0] x[k] (n)", 0, "range"),
            ("copy x[-k] x[k] (-k)", 0, "amount"), ("copy x[-k] x[k] (k)", 0, "range"), ("copy x[k] x[-k] (k)", 0, "range"),
            ("copy x[n] x[0] (k)", 0, "range"), ("reverse x[0] (-k)", 0, "amount"), ("reverse x[-k] (k)", 0, "range"),
            ("reverse x[k] (n)", 0, "range"), ("fill x[k] (n) 0", 0, "range"), ("fill x[2*n] (-k) 0", 0, "amount"),
            ("swap x[0] x[0] (-k)", 0, "amount"), ("swap x[0] x[n] (k)", 0, "range"), ("swap x[n] x[0] (k)", 0, "range"),
            ("resize x (-k)", 0, "amount"), ("resize x (0)\n  fill x[0] (k) 0", 1, "range"),
            ("if n < k\n    resize x (0)\n  else\n    fill x[n] (k) 1\n  end", 2, "range"),
            ("if k < n\n    resize x (0)\n    if k < n\n    else\n      fill x[n] (k) 1\n    end\n  end", 3, "range"),
        ]:
            error = raised(Stopped, done, line)
            self.assertEqual((error.place, error.kind), (place, kind), line)

    def test_fields_change_at_once(self):
        operation = Operation.read(LIMBS, """operation some
size k
output out at
premise all()
body
  let at = at + k
  fill out[0] (k) 3
  let at = 2*at
  fill buf[0] (at) 4
view
result out""")
        found = run(operation, (("at", 1), ("cap", 6), ("wide", 0)), ((9,) * 6, ()), (("k", 1),))
        self.assertEqual(found, ((("at", 4), ("cap", 6), ("wide", 0)), ((4, 4, 4, 4, 9, 9), ()), ((3,),), 5))
        # The length of an output is that at the beginning of the call.
        error = raised(Stopped, run, operation, (("at", 1), ("cap", 9), ("wide", 0)), ((9,) * 9, ()), (("k", 2),))
        self.assertEqual((error.place, error.kind), (1, "range"))
        less = Operation.read(LIMBS, str(operation).replace("at + k", "at - k"))
        error = raised(Stopped, run, less, (("at", 1), ("cap", 9), ("wide", 0)), ((9,) * 9, ()), (("k", 2),))
        self.assertEqual((error.place, error.kind), (0, "field"))

    def test_nothing_asked_of_the_state(self):
        # Neither the invariant nor the premise nor a view is needed.
        fields, cells = (("cap", 1), ("head", 5), ("len", 9)), ((7,),)
        error = raised(Stopped, run, ring_pop(), fields, cells, (("k", 3),))
        self.assertEqual((error.place, error.kind), (3, "amount"))
        still = Operation.read(ring(), "operation still\npremise any()\nbody\nview\n  fill 0 (-cap)")
        self.assertEqual(run(still, fields, cells, ()), (fields, cells, (), 0))

    def test_against_the_simulation(self):
        chance = random.Random(11)
        met = set()
        for _ in range(400):
            container = random_container(chance)
            operation = random_operation(chance, container)
            for _ in range(12):
                values = tuple((symbol, chance.randint(0, 5)) for symbol in operation.unknowns)
                fields, sizes = split_values(operation, values)
                self.check_call(operation, fields, sizes, chance, met)
        self.assertEqual(met, {"done", "field", "amount", "range", "clobber", "overlap", "refused", "view", "no view",
                               "made", "broken", "allowed", "not allowed"})

    def check_call(self, operation, fields, sizes, chance, met):
        table, container = dict(fields) | dict(sizes), operation.container
        lengths = [sum(form.factor(symbol) * table[symbol] for symbol in form.symbols)
                   for _, form in operation.inputs + operation.outputs]
        cells = tuple(tuple(chance.randint(-9, 9) for _ in range(table[length])) for _, length in container.arrays)
        allowed = call_parts(operation, fields, sizes) is not None
        self.assertIs(is_allowed(operation, fields, sizes), allowed)
        met.add("allowed" if allowed else "not allowed")
        view = seen(container, fields, cells)
        self.assertEqual(view_of(container, fields, cells), view)
        met.add("no view" if view is None else "view")
        if min(lengths) < 0:
            for call in (run, promised):
                self.assertIs(raised(NotAllowed, call, operation, fields, cells, sizes, None).value, sizes)
            met.add("refused")
            return
        row = tuple(chance.randint(-9, 9) for _ in range(lengths[0]))
        found = outcome(run, operation, fields, cells, sizes, row)
        self.assertEqual(found, outcome(simulated, operation, fields, cells, sizes, row))
        met.add(found[1] if len(found) == 2 else "done")
        made = None
        if view is not None:
            parts = [made_of(pieces, {"view": view, "given": row}, table) for pieces in (operation.view,) + operation.results]
            made = None if None in parts else (parts[0], tuple(parts[1:]))
        self.assertEqual(promised(operation, fields, cells, sizes, row), made)
        met.add("broken" if made is None else "made")


class ViewTest(unittest.TestCase):
    def test_cases(self):
        buf, bag = (1, 2, 3, 4, 5), (6, 7, 8)
        for at, expected in [(0, ()), (1, (1, 7, 8, 2, 3, 4, 5)), (2, (2, 1, 8, 3, 4, 5)), (3, (3, 2, 1)), (4, None), (9, None)]:
            fields = (("at", at), ("cap", 5), ("wide", 3))
            self.assertEqual(view_of(LIMBS, fields, (buf, bag)), expected)
            self.assertEqual(view_of(container=LIMBS, fields=fields, cells=(buf, bag)), expected)
        # The first case with a true condition counts, also where it has no view.
        self.assertIsNone(view_of(LIMBS, (("at", 3), ("cap", 2), ("wide", 4)), ((1, 2), (1, 2, 3, 4))))
        self.assertEqual(view_of(LIMBS, (("at", 0), ("cap", 0), ("wide", 0)), ((), ())), ())

    def test_ring(self):
        for cap, head, length in itertools.product(range(5), repeat=3):
            row = tuple(range(10, 10 + cap))
            fields = (("cap", cap), ("head", head), ("len", length))
            expected = None
            if head <= cap and length <= cap:
                expected = tuple(row[(head + at) % cap] for at in range(length))
            elif head + length <= cap or (head <= cap and -cap + head + length <= cap):
                expected = tuple((row + row + row)[head + at] for at in range(length))
            self.assertEqual(view_of(ring(), fields, (row,)), expected)

    def test_ends_of_stretches(self):
        for first, last, good in [("0", "0", True), ("0", "n", True), ("n", "n", True), ("n", "0", False), ("-n", "0", False),
                                  ("0", "2*n", False), ("2*n", "2*n", False), ("-n", "-n", False)]:
            container = Container.read(str(ROW).replace("[0 .. n]", f"[{first} .. {last}]"))
            self.assertIs(view_of(container, (("n", 2),), ((1, 2),)) is not None, good)
            self.assertEqual(view_of(container, (("n", 0),), ((),)), ())


class PromisedTest(unittest.TestCase):
    def test_pieces(self):
        text = """operation some
size k
input one 2*k
input two n - k
output out n
output none 0
premise any()
body
  fill out[0] (n) 5
  resize x (0)
view
  {}
result out
  one[k .. 2*k] reversed
  fill -4 (k)
  two[0 .. n - k] reversed
  view[0 .. k]
result none"""
        call = ((("n", 3),), ((1, 2, 3),), (("k", 2),), (4, 5, 6, 7), (8,))
        results = ((7, 6, -4, -4, 8, 1, 2), ())
        for piece, expected in [
            ("view[0 .. n]", (1, 2, 3)), ("view[0 .. n] reversed", (3, 2, 1)), ("view[k .. n]", (3,)), ("view[n .. n]", ()),
            ("view[n .. k]", None), ("view[-k .. 0]", None), ("view[0 .. 2*n]", None), ("one[0 .. 2*k]", (4, 5, 6, 7)),
            ("one[0 .. k + n]", None), ("two[0 .. -k + n] reversed", (8,)), ("two[0 .. n]", None), ("fill 3 (n)", (3, 3, 3)),
            ("fill 3 (0)", ()), ("fill 3 (-n)", None), ("view[k .. n]\n  view[0 .. k]", (3, 1, 2)),
            ("view[0 .. n]\n  fill 0 (k - n)", None),
        ]:
            operation = Operation.read(ROW, text.format(piece).replace("n - k", "-k + n"))
            expected = None if expected is None else (expected, results)
            self.assertEqual(promised(operation, *call), expected, piece)
        # Where the pieces of an output are broken there is no pair at all.
        broken = Operation.read(ROW, str(operation).replace("\n  fill 0 (k - n)", "").replace("fill -4 (k)", "fill -4 (-k)"))
        self.assertIsNone(promised(broken, *call))

    def test_no_view(self):
        fields, cells = (("cap", 1), ("len", 2)), ((1,),)
        self.assertIsNone(promised(stack_push(), fields, cells, (("k", 0),), ()))
        self.assertIsNone(promised(stack_drop(), fields, cells, (("k", 0),)))
        # An empty promise needs a view all the same, and a premise that does not hold is not asked.
        bare = Operation.read(stack(), "operation bare\npremise any()\nbody\nview")
        self.assertIsNone(promised(bare, fields, cells, ()))
        self.assertEqual(promised(bare, (("cap", 1), ("len", 1)), cells, ()), ((), ()))


class AllowedTest(unittest.TestCase):
    def test_each_part(self):
        text = "operation some\nsize k\ninput one {}\noutput out {}\npremise {}\nbody\nview\nresult out"

        def allowed(fields, one="0", out="0", premise="all()", container=stack(), k=2):
            operation = Operation.read(container, text.format(one, out, premise))
            return is_allowed(operation, fields, (("k", k),))

        fields = (("cap", 3), ("len", 3))
        self.assertIs(allowed(fields), True)
        self.assertIs(allowed((("cap", 3), ("len", 4))), False)
        self.assertIs(allowed(fields, premise="k < len"), True)
        self.assertIs(allowed(fields, premise="len < k"), False)
        for form, good in [("-k + len", True), ("-2*k + len", False), ("k", True), ("cap - len", True), ("-cap", False)]:
            self.assertIs(allowed(fields, one=form), good)
            self.assertIs(allowed(fields, out=form), good)
        gap = Container.read(str(stack()).replace("case all()", "case len < cap"))
        self.assertIs(allowed(fields, container=gap), False)
        self.assertIs(allowed((("cap", 4), ("len", 3)), container=gap), True)
        wide = Container.read(str(stack()).replace("invariant len <= cap", "invariant all()"))
        self.assertIs(allowed((("cap", 3), ("len", 4)), container=wide), False)

    def test_named(self):
        self.assertIs(is_allowed(operation=stack_drop(), fields=(("cap", 1), ("len", 1)), values=(("k", 1),)), True)


class WrongArgumentsTest(unittest.TestCase):
    FIELDS, CELLS, VALUES, INPUT = (("cap", 2), ("len", 1)), ((5, 6),), (("k", 2),), (7, 8)

    def test_no_operation(self):
        for value in STRANGE + [True, 1, str(stack_push()), stack(), (), Operation]:
            for call in (run, promised):
                self.assertIs(raised(NotAnOperation, call, value, None, None, None).value, value)
            self.assertIs(raised(NotAnOperation, is_allowed, value, None, None).value, value)

    def test_no_container(self):
        for value in STRANGE + [True, 1, str(stack()), stack_push(), ()]:
            self.assertIs(raised(NotAContainer, view_of, value, None, None).value, value)

    def test_fields(self):
        push = stack_push()
        for value in STRANGE + [True, 1, (), (("cap", 2),), (("len", 1),), (("cap", 2), ("k", 2), ("len", 1)),
                                (("len", 1), ("cap", 2)), (("cap", 2), ("len", -1)), (("cap", 2), ("len", True)),
                                (("cap", 2), ("len", 1), ("wide", 1)), (("cap", 2), ("cap", 2), ("len", 1)),
                                (("cap", "2"), ("len", 1)), [("cap", 2), ("len", 1)], (["cap", 2], ("len", 1)),
                                (("@", 1), ("cap", 2), ("len", 1)), (("buf", 2), ("len", 1))]:
            for later in ((self.CELLS, self.VALUES), (None, None)):
                for call in (run, promised):
                    self.assertIs(raised(InvalidValues, call, push, value, *later, self.INPUT).value, value)
                    self.assertIs(raised(InvalidValues, call, push, value, *later).value, value)
                self.assertIs(raised(InvalidValues, is_allowed, push, value, later[1]).value, value)
                self.assertIs(raised(InvalidValues, view_of, stack(), value, later[0]).value, value)

    def test_cells(self):
        calls = [lambda fields, cells: view_of(LIMBS, fields, cells)]
        still = Operation.read(LIMBS, "operation still\npremise all()\nbody\nview")
        for call in (run, promised):
            calls.append(lambda fields, cells, call=call: call(still, fields, cells, ()))
            calls.append(lambda fields, cells, call=call: call(still, fields, cells, None, None))
        fields = (("at", 0), ("cap", 2), ("wide", 1))
        for value, index in [(value, None) for value in STRANGE + [
            True, 1, "ab", (), ((5, 6),), ((5, 6), (7,), ()), [(5, 6), (7,)], (None,) * 3]] + [
            (((5,), (7,)), 0), (((5, 6, 7), (7,)), 0), (((5, 6), ()), 1), (((5, 6), (7, 8)), 1), (([5, 6], (7,)), 0),
            (((5, 6), [7]), 1), (((5, True), (7,)), 0), (((5, 6), (False,)), 1), (((5, "6"), (7,)), 0), (((5, None), ()), 0),
            ((None, None), 0), (((5, 6), None), 1), (((5, 6), "7"), 1), (((5, (6,)), (7,)), 0), (((5, 6), {7: 1}), 1)]:
            for call in calls:
                self.assertEqual(raised(InvalidState, call, fields, value).index, index, value)

    def test_values(self):
        push = stack_push()
        for value in STRANGE + [True, 1, "k", (), (("k", -1),), (("k", True),), (("k", "1"),), (("j", 1),), (("j", 1), ("k", 1)),
                                (("k", 1), ("len", 1)), (("cap", 2), ("k", 1)), [("k", 1)], (("k", 1), ("k", 1)), ("k", 1)]:
            for call in (run, promised):
                for inputs in ((), (self.INPUT,), (None,), (None, None)):
                    self.assertIs(raised(InvalidValues, call, push, self.FIELDS, self.CELLS, value, *inputs).value, value)
            self.assertIs(raised(InvalidValues, is_allowed, push, self.FIELDS, value).value, value)
        # A field may not be given again, and a size not be left out, where there is none either.
        still = Operation.read(stack(), "operation still\npremise all()\nbody\nview")
        self.assertIs(raised(InvalidValues, run, still, self.FIELDS, self.CELLS, self.VALUES).value, self.VALUES)

    def test_lengths_below_zero(self):
        for head in ("input a len\ninput given -k + len", "input given -k + len\ninput a -len", "output a -k + len",
                     "output b k\noutput a -k + len", "input a -len\noutput b -len"):
            results = "".join(f"\nresult {row.split()[1]}" for row in head.split("\n") if row.startswith("output"))
            operation = Operation.read(stack(), f"operation some\nsize k\n{head}\npremise any()\nbody\nview{results}")
            for call in (run, promised):
                for inputs in ((), (None,), ((), ()), ((1,), (2,)), (1, 2, 3)):
                    found = raised(NotAllowed, call, operation, self.FIELDS, self.CELLS, self.VALUES, *inputs)
                    self.assertIs(found.value, self.VALUES)

    def test_inputs(self):
        two = Operation.read(stack(), "operation two\nsize k\ninput one k\ninput two len\npremise all()\nbody\nview")
        one = (7, 8)
        for inputs, index in [((), None), ((one,), None), ((one, (9,), ()), None), ((None, None, None), None),
                              (((7,), (9,)), 0), ((one, ()), 1), ((one, (9, 9)), 1), (((7, 8, 9), ()), 0), (([7, 8], (9,)), 0),
                              ((one, [9]), 1), (((7, True), (9,)), 0), ((one, (False,)), 1), ((one, ("9",)), 1)] + [
                                  ((value, (9,)), 0) for value in STRANGE + [True, 1, "ab"]] + [
                                  ((one, value), 1) for value in STRANGE + [True, 1, "a", ()]]:
            for call in (run, promised):
                found = raised(InvalidInputs, call, two, self.FIELDS, self.CELLS, self.VALUES, *inputs)
                self.assertEqual(found.index, index, inputs)
        self.assertEqual(run(two, self.FIELDS, self.CELLS, self.VALUES, one, (9,))[:2], (self.FIELDS, self.CELLS))
        drop = stack_drop()
        self.assertIsNone(raised(InvalidInputs, run, drop, self.FIELDS, self.CELLS, (("k", 0),), ()).index)

    def test_named(self):
        found = run(operation=stack_drop(), fields=self.FIELDS, cells=self.CELLS, values=(("k", 1),))
        self.assertEqual(found, ((("cap", 2), ("len", 0)), ((5, 6),), ((5,),), 1))
        made = promised(values=(("k", 1),), cells=self.CELLS, fields=self.FIELDS, operation=stack_drop())
        self.assertEqual(made, ((), ((5,),)))


class TogetherTest(unittest.TestCase):
    """Point 2: right operations do to the view what their promises do to lists."""

    def test_catalog(self):
        for operation in (ring_push(), ring_pop(), ring_turn(), stack_push(), stack_drop()):
            calls = 0
            for values in small_values(operation.unknowns, 6):
                fields, sizes = split_values(operation, values)
                parts = call_parts(operation, fields, sizes)
                self.assertIs(is_allowed(operation, fields, sizes), parts is not None)
                if parts is None:
                    continue
                calls += 1
                cells, inputs = parts
                view, results = promised(operation, fields, cells, sizes, *inputs)
                after, cells_after, outputs, _ = run(operation, fields, cells, sizes, *inputs)
                self.assertEqual((view_of(operation.container, after, cells_after), outputs), (view, results))
                self.assertTrue(holds(operation.container.invariant, dict(after)))
            self.assertGreater(calls, 50)


if __name__ == "__main__":
    unittest.main()
