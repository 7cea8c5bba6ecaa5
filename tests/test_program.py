"""What the document promises over the whole program (point 2)."""

import random
import unittest

from blockmoves.alike import find_difference
from blockmoves.catalog import ring, ring_pop, ring_push, ring_turn, stack, stack_drop, stack_push
from blockmoves.certificates import certify, certify_alike, certify_sound
from blockmoves.checker import holds
from blockmoves.containers import Container
from blockmoves.costs import worst
from blockmoves.demands import demands_of
from blockmoves.errors import NotAllowed
from blockmoves.forms import Form
from blockmoves.judging import enough, is_right, needless, problems, reached
from blockmoves.keeping import kept_part
from blockmoves.operations import Operation
from blockmoves.runs import promised
from blockmoves.stores import Store
from blockmoves.workshops import Workshop
from makers import PAIR, ROW, made
from simulator import problems_at, small_values, split_values

# A gap buffer: what lies in front of the gap and, in the reversed order of a second array, what lies behind it.
GAP = Container.read("""array front most
array back room
field head
field tail
parameters n m
premise all()
begin head = 0
begin most = n
begin room = m
begin tail = 0
invariant all(head <= most, tail <= room)
case all()
  front[0 .. head]
  back[0 .. tail] reversed""")
# Two lists in one array, one of them from its end on.
ENDS = Container.read("""array x n
field low
field high
parameters n
premise all()
begin high = n
begin low = 0
begin n = n
invariant all(low <= high, high <= n)
case low < high
  x[high .. n]
  x[0 .. low] reversed
case all()
  x[low .. n]
  x[0 .. low] reversed""")


def called(name, operation):
    return Operation.read(operation.container, str(operation).replace("operation some", f"operation {name}"))


def gap_operations():
    left = made(GAP, "if room < k + tail", "  resize back (2*k + 2*tail)", "end", "copy back[tail] front[head - k] (k)",
                "reverse back[tail] (k)", "let head = head - k", "let tail = k + tail", premise="k <= head",
                view=["view[0 .. head]", "view[head .. head + tail]"])
    right = made(GAP, "if most < head + k", "  resize front (2*head + 2*k)", "end", "copy front[head] back[-k + tail] (k)",
                 "reverse front[head] (k)", "let head = head + k", "let tail = -k + tail", premise="k <= tail",
                 view=["view[0 .. head + tail]"])
    put = made(GAP, "if most < head + k", "  resize front (2*head + 2*k)", "end", "copy front[head] given[0] (k)", "let head = head + k",
               head="size k\ninput given k", view=["view[0 .. head]", "given[0 .. k]", "view[head .. head + tail]"])
    return [called(name, one) for name, one in (("left", left), ("right", right), ("put", put))]


def ends_operations():
    both = made(ENDS, "copy x[low] one[0] (k)", "reverse x[low] (k)", "copy x[high - k] two[0] (k)", "let low = k + low",
                "let high = high - k", head="size k\ninput one k\ninput two k", premise="2*k + low <= high",
                view=["two[0 .. k]", "view[0 .. -high + n]", "one[0 .. k]", "view[-high + n .. -high + low + n]"])
    take = made(ENDS, "copy out[0] x[high] (-high + n)", "copy rest[0] x[0] (low)", "let high = n", "let low = 0", head=(
        "output out -high + n\noutput rest low"), premise="low < high", view=["view[0 .. 0]", "fill 0 (0)"], results=[
            ["out", "view[0 .. -high + n]"], ["rest", "view[-high + n .. -high + low + n] reversed"]])
    return [called(name, one) for name, one in (("both", both), ("take", take))]


def all_containers():
    return [(ring(), [ring_push(), ring_pop(), ring_turn()]), (stack(), [stack_push(), stack_drop()]), (GAP, gap_operations()),
            (ENDS, ends_operations())]


class HistoriesTest(unittest.TestCase):
    """Right operations on a sound container do to its view what their promises do to lists."""

    def play(self, store, chance, operations, calls):
        """Makes calls, and compares the view with what the promises make of a plain list."""
        made_calls = 0
        for step in range(calls):
            operation = chance.choice(operations)
            values = tuple((size, chance.randint(0, 4)) for size in sorted(operation.sizes))
            table = dict(store.fields) | dict(values)
            inputs = [tuple(1000 * step + 100 * at + cell for cell in range(max(0, length.evaluate(tuple(sorted(table.items()))))))
                      for at, (_, length) in enumerate(operation.inputs)]
            fields, view = store.fields, store.shown()
            cells = tuple(store.cells(array) for array, _ in store.container.arrays)
            try:
                outputs = store.do(operation, values, *inputs)
            except NotAllowed:
                self.assertEqual((store.fields, store.shown()), (fields, view))
                continue
            expected_view, expected_outputs = promised(operation, fields, cells, values, *inputs)
            self.assertEqual((store.shown(), outputs), (expected_view, expected_outputs))
            self.assertEqual((expected_view, expected_outputs), self.plain(operation, table, view, inputs))
            made_calls += 1
        return made_calls

    def plain(self, operation, table, view, inputs):
        """What the promise makes of plain lists."""
        lists = {"view": list(view)} | {name: list(cells) for (name, _), cells in zip(operation.inputs, inputs)}

        def worth(form):
            return sum(form.factor(symbol) * table[symbol] for symbol in form.symbols)

        def elements(pieces):
            found = []
            for piece in pieces:
                if piece[0] == "fill":
                    found += [piece[1]] * worth(piece[2])
                else:
                    part = lists[piece[1]][worth(piece[2]):worth(piece[3])]
                    found += part[::-1] if piece[4] else part
            return tuple(found)

        return elements(operation.view), tuple(elements(pieces) for pieces in operation.results)

    def test_histories(self):
        chance = random.Random(101)
        for container, operations in all_containers():
            workshop = Workshop(container)
            workshop.do_all(*[("add", operation) for operation in operations])
            total = 0
            for start in range(12):
                values = tuple((name, chance.randint(0, 9)) for name in sorted(container.parameters))
                store = Store(container, values)
                total += self.play(store, chance, [workshop.operation(name) for name in workshop], 40)
            self.assertGreater(total, 100, repr(container))

    def test_limits_and_costs(self):
        # The costs of a history are at most the fraction times the form, summed up.
        chance = random.Random(102)
        workshop = Workshop(ring())
        workshop.do_all(("add", ring_push()), ("add", ring_pop()), ("add", ring_turn()), ("limit", "push", Form(k=1), (1, 1)),
                        ("limit", "pop", Form(k=1), (1, 1)), ("limit", "turn", Form(len=1), (2, 1)))
        store, bound = Store(ring(), (("cap", 12),)), 0
        for _ in range(300):
            name = chance.choice(workshop.names)
            values = (("k", chance.randint(0, 5)),)
            form, (over, under) = workshop.limit_of(name)
            fields = tuple(sorted(store.fields + values))
            inputs = [tuple(range(values[0][1]))] * len(workshop.operation(name).inputs)
            try:
                store.do(workshop.operation(name), values, *inputs)
            except NotAllowed:
                continue
            bound += over * form.evaluate(fields) // under
            self.assertLessEqual(store.cost, bound)
        self.assertGreater(len(store), 50)


class OneOrTheOtherTest(unittest.TestCase):
    def test_right_or_wrong(self):
        for container, operations in all_containers():
            self.assertTrue(holds(*certify_sound(container)))
            for operation in operations:
                self.assertEqual((is_right(operation), list(problems(operation))), (True, []), str(operation))
                claim, certificate = certify(operation)
                self.assertEqual((claim[0], holds(claim, certificate)), ("right", True))
                for by in ("view", "cells"):
                    claim, certificate = certify_alike(operation, operation, by=by)
                    self.assertEqual((claim[0], holds(claim, certificate)), ("alike", True))
                self.assertEqual(kept_part(container, tuple(operations), (container.invariant,)), (0,))

    def test_each_small_change_is_told(self):
        # A body with a form changed is told to be wrong with values that a run shows, or else no run shows a problem.
        chance = random.Random(103)
        told = {True: 0, False: 0}
        for container, operations in all_containers():
            for operation in operations:
                text = str(operation)
                begin, end = text.index("body\n"), text.index("\nview")
                for _ in range(12):
                    body = text[begin:end]
                    spots = [at for at, sign in enumerate(body) if sign in "[("]
                    at = chance.choice(spots) + 1
                    stop = body.index("]" if body[at - 1] == "[" else ")", at)
                    form = chance.choice(["0", *operation.unknowns])
                    changed = Operation.read(container, text[:begin] + body[:at] + form + body[stop:] + text[end:])
                    found = list(problems(changed))
                    for place, kind, values in found:
                        self.assertIn((place, kind), problems_at(changed, *split_values(changed, values)))
                    for values in small_values(changed.unknowns, 3) if not found else []:
                        self.assertEqual(problems_at(changed, *split_values(changed, values)), set())
                    self.assertTrue(holds(*certify(changed)))
                    told[not found] += 1
                    difference = find_difference(operation, changed)
                    self.assertFalse(not found and difference is not None)
        self.assertGreater(told[False], 50)


class LongOperationsTest(unittest.TestCase):
    """Up to the sizes that the document allows."""

    def judged(self, operation, most=20000):
        self.assertLess(sum(1 for _ in demands_of(operation)), most)
        claim, certificate = certify(operation)
        self.assertTrue(holds(claim, certificate))
        self.assertEqual(claim[0] == "right", is_right(operation))
        return claim[0]

    def test_forty_statements(self):
        rows = []
        for condition in ["k < len", "head < k", "head < len", "2*k < cap"]:
            rows += [f"if {condition}"] + ["  let len = len", "  let head = head"] * 2
            rows += ["else"] + ["  let head = head", "  let len = len"] * 2 + ["end"]
        rows += ["let len = len"] * 4
        operation = made(ring(), *rows, premise="k <= len", view=["view[0 .. len]"])
        self.assertEqual(operation.places, 40)
        self.assertEqual(self.judged(operation), "right")
        self.assertEqual(reached(operation), tuple(range(40)))
        self.assertEqual(needless(operation), tuple(range(40)))
        self.assertEqual(worst(operation, Form())[:2], ((0, 1), False))

    def test_five_moves(self):
        turn = ["reverse x[a] (-a + b)", "reverse x[b] (-b + c)", "reverse x[a] (-a + c)"]
        operation = made(ROW, *turn, "reverse x[0] (n)", "reverse x[0] (n)", head="size a\nsize b\nsize c",
                         premise="all(a <= b, b <= c, c <= n)", view=["view[0 .. a]", "view[b .. c]", "view[a .. b]", "view[c .. n]"])
        self.assertEqual(self.judged(operation), "right")
        self.assertEqual(self.judged(made(
            ROW, *turn, "reverse x[0] (n)", "reverse x[0] (c)", head="size a\nsize b\nsize c", premise="all(a <= b, b <= c, c <= n)",
            view=["view[0 .. a]", "view[b .. c]", "view[a .. b]", "view[c .. n]"])), "wrong")
        swaps = made(ROW, "swap x[0] x[2*k] (k)", "swap x[k] x[3*k] (k)", "swap x[0] x[k] (k)", premise="n = 4*k",
                     view=["view[3*k .. 4*k]", "view[2*k .. 3*k]", "view[0 .. k]", "view[k .. 2*k]"])
        self.assertEqual(self.judged(swaps, 25000), "right")
        self.assertEqual(enough(swaps), ())

    def test_many_ways(self):
        atoms = ", ".join(f"{factor}*k < len" for factor in range(2, 11))
        operation = made(stack(), f"if any({atoms}, len = k)", "  reverse buf[0] (k)", "else", f"  if any({atoms.replace('<', '<=')}, k = 0)",
                         "    reverse buf[0] (0)", "  end", "end", premise=f"any(k < len, {atoms})",
                         view=["view[0 .. len]"])
        self.assertEqual(self.judged(operation), "wrong")
        self.assertEqual([key[:2] for key in problems(operation)], [(4, "cell")])

    def test_reversed_stretches(self):
        turned = made(PAIR, "reverse left[0] (used)", "reverse left[0] (used)", "reverse left[0] (used)", head="", premise="high <= used",
                      view=["view[0 .. used] reversed"])
        self.assertEqual(self.judged(turned), "right")
        self.assertEqual(self.judged(Operation.read(PAIR, str(turned).replace(" reversed", ""))), "wrong")


if __name__ == "__main__":
    unittest.main()
