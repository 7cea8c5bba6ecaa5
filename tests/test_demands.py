import inspect
import random
import unittest

from blockmoves.catalog import ring, ring_pop, ring_push, ring_turn, stack, stack_drop, stack_push
from blockmoves.conditions import All, Below, Upto, read_condition
from blockmoves.containers import Container
from blockmoves.demands import demands_of, demands_of_both, demands_of_bound, demands_of_container, demands_of_kept
from blockmoves.errors import (
    InvalidBy, InvalidFraction, InvalidPotential, NotACondition, NotAContainer, NotAForm, NotAnOperation, NotComparable)
from blockmoves.forms import Form
from blockmoves.operations import Operation
from again import (
    demands_again, demands_of_both_again, demands_of_bound_again, demands_of_container_again, demands_of_kept_again, facts_of)
from samples import STRANGE, raised
from simulator import (
    differences_at, ends_at, facts_hold, holds, problems_at, random_container, random_operation, seen, small_values,
    split_values, worth)

LEN, CAP, K, ZERO = Form(len=1), Form(cap=1), Form(k=1), Form()
ROW = Container.read("array x n\nparameters n\npremise all()\nbegin n = n\ninvariant all()\ncase all()\n  x[0 .. n]")
CATALOG = (ring_push, ring_pop, ring_turn, stack_push, stack_drop)


def on_row(*lines, head="size k", tail=("view",), container=ROW):
    """An operation of these lines of a body."""
    rows = ["operation some"] + head.split("\n") + ["premise all()", "body"] + ["  " + line for line in lines]
    return Operation.read(container, "\n".join(rows + list(tail)))


def told(text):
    """The set of the facts in a text: forms between commas, a strict one with `!` behind it."""
    return frozenset((part.strip().rstrip("!"), part.strip().endswith("!")) for part in text.split(","))


def sets_of(demands):
    return {(*demand[:-1], facts_of(demand[-1])) for demand in demands}


def plain_sets_of(demands):
    return {facts_of(facts) for facts in demands}


def of_kind(kind, demands):
    return {facts for *_, own, facts in sets_of(demands) if own == kind}


class WrittenOutTest(unittest.TestCase):
    """Some demands, written out by hand."""

    def test_all_demands_of_a_reversal(self):
        operation = on_row("reverse x[0] (k)", tail=("view", "  view[0 .. n]"))
        base = told("0, n")
        end = base | told("k, -k + n")
        middle = end | told("@!, -@ + n!")
        self.assertEqual(sets_of(demands_of(operation)), {
            (0, "amount", base | told("-k!")),
            (0, "range", base | told("k, 0!")), (0, "range", base | told("k, k - n!")),
            (1, "view", end | told("0!")), (1, "view", end | told("-n!")),
            (1, "promise", end | told("0!")), (1, "promise", end | told("-n!")),
            (1, "length", end | told("0!")),
            (1, "cell", middle | told("-@!, 0!")), (1, "cell", middle | told("-@ + k!")),
            (1, "cell", middle | told("@ - k!, 0!"))})

    def test_the_beginning(self):
        container = Container.read("""array x n
field m
parameters
premise all()
begin m = 0
begin n = 0
invariant any(m < n, m = n)
case n < m
  x[0 .. 0]
case m = n
case all()
  x[m .. n] reversed
  x[0 .. m]""")
        operation = Operation.read(container, """operation some
size k
input one -m + n
output two m
premise any(k < m, k < n)
body
  let m = -k + n
view
result two""")
        invariants = [told("-m + n!"), told("m - n, -m + n, m - n")]
        cases = [told("m - n!, 0, n"), told("-m + n, m - n"), told("-m + n, m - n!, m, 0"), told("-m + n, -m + n!, m, 0")]
        premises = [told("-k + m!"), told("k - m, -k + n!")]
        expected = {one | two | three | told("-m + n, m") | told("k - n!")
                    for one in invariants for two in cases for three in premises}
        self.assertEqual(of_kind("field", demands_of(operation)), expected)

    def test_range_and_meeting_stops(self):
        base = told("0, n")
        inside = told("t, -m + n - t, s, -m + n - s")
        for word, kind, one, other in [("up", "clobber", "-s + t!", "m + s - t!"), ("down", "clobber", "s - t!", "m - s + t!"),
                                       ("apart", "overlap", "m + s - t!", "m - s + t!"),
                                       ("swap", "overlap", "m + s - t!", "m - s + t!")]:
            operation = on_row(f"{word} x[t] x[s] (m)", head="size t\nsize s\nsize m")
            demands = sets_of(demands_of(operation))
            self.assertEqual({facts for place, own, facts in demands if place == 0 and own == kind},
                             {base | told("m") | inside | told(one) | told(other)})
            self.assertEqual({facts for place, own, facts in demands if place == 0 and own == "amount"}, {base | told("-m!")})
            self.assertEqual({facts for place, own, facts in demands if place == 0 and own == "range"}, {
                base | told("m, -t!"), base | told("m, t, m - n + t!"), base | told("m, t, -m + n - t, -s!"),
                base | told("m, t, -m + n - t, s, m - n + s!")})
            # A walk goes on by either true way of the condition that there is no such stop.
            against = {"-s + t!": "s - t", "s - t!": "-s + t", "m + s - t!": "-m - s + t"}[one]
            behind = {"m + s - t!": "-m - s + t", "m - s + t!": "-m + s - t"}[other]
            whole = base | told("m") | inside
            # The view `x[0 .. n]` afterwards is never missing but by its own false ways.
            self.assertEqual({facts for place, own, facts in demands if own == "view"},
                             {whole | way | told(last) for way in (told(against), told(one) | told(behind))
                              for last in ("0!", "-n!")})
            self.assertEqual({own for place, own, _ in demands if place == 0}, {"amount", "range", kind})
        for word in ("copy", "reverse", "fill"):
            line = {"copy": "copy x[t] x[s] (m)", "reverse": "reverse x[t] (m)", "fill": "fill x[t] (m) 1"}[word]
            kinds = {own for place, own, _ in sets_of(demands_of(on_row(line, head="size t\nsize s\nsize m"))) if place == 0}
            self.assertEqual(kinds, {"amount", "range"})
        different = on_row("up y[t] x[s] (m)", head="size t\nsize s\nsize m\noutput y n", tail=("view", "result y"))
        self.assertEqual({own for place, own, _ in sets_of(demands_of(different)) if place == 0}, {"amount", "range"})

    def test_meetings_behind_a_resize(self):
        operation = on_row("resize x (k)", tail=("view", "  view[0 .. k]"))
        end = told("0, n, k")
        cell = end | told("-k + n, @!, -@ + k!, -@ + n!")
        self.assertEqual(of_kind("cell", demands_of(operation)), {
            cell | told("0!"), end | told("-k + n, @!, -@ + k!, -@ + n!, @ - n!")})
        # A letter 0 does not meet the letter 0 of a fill, but that of another one.
        for letter in (0, 5):
            filled = on_row("resize x (k)", tail=("view", f"  fill {letter} (k)"))
            cell = end | told("@!, -@ + k!")
            expected = {cell | told("-@ + n!"), cell | told("@ - n!")}
            self.assertEqual(of_kind("cell", demands_of(filled)), expected if letter else {cell | told("-@ + n!")})

    def test_meetings_behind_a_swap(self):
        operation = on_row("swap x[t] x[s] (m)", head="size t\nsize s\nsize m", tail=("view", "  view[0 .. n]"))
        base = told("0, n, m, t, -m + n - t, s, -m + n - s, @!, -@ + n!")
        expected = set()
        for apart in (told("-m - s + t"), told("m + s - t!, -m + s - t")):
            whole = base | apart
            expected |= {whole | told("@ - t!, -@ + m + t!") | told(last) for last in ("s - t!", "-s + t!")}
            for first in ("-@ + t!", "@ - m - t!"):
                expected |= {whole | told(first) | told("@ - s!, -@ + m + s!") | told(last) for last in ("s - t!", "-s + t!")}
                expected |= {whole | told(first) | told(second) | told("0!") for second in ("-@ + s!", "@ - m - s!")}
        self.assertEqual(of_kind("cell", demands_of(operation)), expected)

    def test_results(self):
        operation = on_row("copy y[0] given[0] (k)", head="size k\ninput given 2*k\noutput y n", tail=(
            "view", "result y", "  given[0 .. k]", "  fill 0 (-k + n)"))
        end = told("0, n, 2*k, k, -k + n, -k + n, k")
        equal, middle = told("0"), told("@!, -@ + n!")
        within, behind = told("@!, -@ + k!"), told("@ - k!")
        pieces = {"given": told("-@ + k!"), "fill": told("@ - k!, -@ + n!")}
        expected = {end | told("0!")}
        for moved in (told("-@!"), within, behind):
            for name, facts in pieces.items():
                whole = end | equal | middle | moved | facts
                if moved is within and name == "given":
                    expected |= {whole | told("0!")}
                elif moved is within or name == "given":
                    expected.add(whole)
        demands = of_kind("result", demands_of(operation))
        self.assertEqual(demands, expected)

    def test_reversed_stretches_and_parts(self):
        container = Container.read(str(ROW).replace("[0 .. n]", "[0 .. n] reversed"))
        operation = Operation.read(container, "operation some\nsize k\npremise all()\nbody\nview\n  view[0 .. n]")
        cell = told("0, n, @!, -@ + n!")
        self.assertEqual(of_kind("cell", demands_of(operation)), {cell | told("0!")})
        turned = Operation.read(container, str(operation) + " reversed")
        # n - @ in the array is met by what is at n - (n - @) = @ of it.
        self.assertEqual(of_kind("cell", demands_of(turned)), {cell})

    def test_both(self):
        first = on_row("copy x[0] x[k] (k)")
        second = on_row("fill x[0] (k) 7")
        base = told("0, n")
        one = base | told("k, -k + n, -2*k + n")
        two = one | told("-k + n")
        by_view = sets_of(demands_of_both(first, second))
        self.assertEqual({facts for kind, facts in by_view if kind == "first"}, {
            base | told("-k!"), base | told("k, 0!"), base | told("k, k - n!"), base | told("k, -k + n, -k!"),
            base | told("k, -k + n, 2*k - n!")})
        self.assertEqual({facts for kind, facts in by_view if kind == "second"}, {
            one | told("-k!"), one | told("0!"), one | told("k - n!")})
        self.assertEqual({facts for kind, facts in by_view if kind == "view"}, {two | told("0!"), two | told("-n!")})
        self.assertEqual({facts for kind, facts in by_view if kind == "length"}, {two | told("0!")})
        cells = set()
        middle = two | told("@!, -@ + n!")
        for there, place in ((told("-@!"), "stays"), (told("@!, -@ + k!"), "moved"), (told("@ - k!"), "stays")):
            for other, again in ((told("-@!"), "stays"), (told("@!, -@ + k!"), "letter"), (told("@ - k!"), "stays")):
                facts = middle | there | other
                if again == "letter":
                    cells.add(facts)
                elif place == "stays":
                    cells.add(facts | told("0!"))
                else:
                    cells |= {facts | told("k!"), facts | told("-k!")}
        self.assertEqual({facts for kind, facts in by_view if kind == "cell"}, cells)
        by_cells = sets_of(demands_of_both(first, second, by="cells"))
        self.assertEqual({facts for kind, facts in by_cells if kind == "array"}, cells)
        self.assertEqual({facts for kind, facts in by_cells if kind == "field"}, {two | told("0!")})
        self.assertEqual({kind for kind, _ in by_cells}, {"first", "second", "field", "array"})
        self.assertEqual(by_view, sets_of(demands_of_both(second=second, by="view", first=first)))

    def test_kept_and_bound(self):
        container = Container.read(str(ROW).replace("array x n\n", "array x n\nfield m\n").replace(
            "begin n", "begin m = 0\nbegin n"))
        operation = Operation.read(container, "operation some\nsize k\npremise all()\nbody\n  let m = -k + m\n  fill x[0] (k) 1\n"
                                   "  resize x (2*n)\n  swap x[0] x[n] (k)\nview")
        # The swap has the present form of n, and two true ways: its blocks are apart in one or the other order.
        whole = told("0, n, -k + m, k, -k + n, 2*n, -k + 2*n, -k, -m + n, -k + m - 2*n!")
        self.assertEqual(plain_sets_of(demands_of_kept(operation, read_condition("m <= n"))),
                         {whole | told("-k - 2*n"), whole | told("k + 2*n!, -k + 2*n")})
        potential = ((read_condition("m < n"), Form(m=1)), (All(), Form(n=3)))
        found = plain_sets_of(demands_of_bound(operation, potential, Form(k=1, n=2), (2, 3)))
        # The cost is k + 2*n + 2*k; before m or 3*n, afterwards m - k or 6*n; three times that less 2*k + 4*n.
        last = {("-m + n!, k - m + 2*n!", "4*k + 2*n!"), ("-m + n!, -k + m - 2*n", "7*k - 3*m + 20*n!"),
                ("m - n, k - m + 2*n!", "4*k + 3*m - 7*n!"), ("m - n, -k + m - 2*n", "7*k + 11*n!")}
        self.assertEqual({(ways, dear) for ways, dear in last for facts in found if told(ways) | told(dear) <= facts}, last)
        self.assertEqual(len(found), 8)
        plain = plain_sets_of(demands_of_bound(operation, None, Form(), (0, 1)))
        self.assertTrue(all(told("3*k + 2*n!") <= facts for facts in plain))
        self.assertEqual(len(plain), 2)
        self.assertEqual(plain, plain_sets_of(demands_of_bound(operation, ((All(), ZERO),), ZERO, (5, 1))))

    def test_container(self):
        container = Container.read(str(stack()).replace("premise all()", "premise any(0 < n, n = 0)").replace(
            "begin len = 0", "begin len = 2*n"))
        self.assertEqual(plain_sets_of(demands_of_container(container)), {
            told("n!, n, 2*n"), told("-n, n, 2*n, n!"),
            told("cap - len, 0!"), told("cap - len, 0, -len!"), told("cap - len, 0, len, -cap + len!")})


class AgainTest(unittest.TestCase):
    """The same sets of demands by a second program, which goes by the words of the points alone."""

    def check(self, operation, others, chance):
        demands = list(demands_of(operation))
        for place, kind, facts in demands[:50]:
            self.assertTrue(type(place) is int and type(kind) is str and type(facts) is tuple)
            self.assertTrue(all(type(fact) is tuple and type(fact[0]) is Form and type(fact[1]) is bool for fact in facts))
        self.assertEqual(sets_of(demands), demands_again(operation))
        container = operation.container
        self.assertEqual(plain_sets_of(demands_of_container(container)), demands_of_container_again(container))
        condition = read_condition(chance.choice(["len <= cap", "any(len < cap, not(cap = len))", "all()", "cap = 0", "any()"]))
        self.assertEqual(plain_sets_of(demands_of_kept(operation, condition)), demands_of_kept_again(operation, condition))
        potential = ((condition, Form(len=2, cap=-1)), (Below(CAP, LEN), CAP), (All(), ZERO))[chance.randint(0, 2):]
        bound = (potential, Form(k=2, len=1), (chance.randint(0, 3), chance.randint(1, 3)))
        self.assertEqual(plain_sets_of(demands_of_bound(operation, *bound)), demands_of_bound_again(operation, *bound))
        for other in others:
            for by in ("view", "cells"):
                self.assertEqual(sets_of(demands_of_both(operation, other, by=by)),
                                 demands_of_both_again(operation, other, by))
        return len(demands)

    def test_catalog(self):
        chance = random.Random(13)
        for make in CATALOG:
            self.check(make(), [make()] if make in (stack_push, stack_drop) else [], chance)
        self.assertEqual(sets_of(demands_of_both(ring_pop(), ring_pop(), by="cells")),
                         demands_of_both_again(ring_pop(), ring_pop(), "cells"))

    def test_random_operations(self):
        chance = random.Random(14)
        total = 0
        for _ in range(45):
            container = random_container(chance)
            operation, other = random_operation(chance, container), random_operation(chance, container)
            if sum(1 for _ in demands_of(operation)) > 800:
                continue
            others = []
            try:
                others.append(Operation(container, "other", sizes=operation.sizes, inputs=operation.inputs,
                                        outputs=operation.outputs, body=other.body, results=((),)))
            except ValueError:
                pass
            total += self.check(operation, others if sum(1 for one in others for _ in demands_of_both(operation, one)) < 1500
                                else [], chance)
        self.assertGreater(total, 2000)

    def test_equal_calls(self):
        for make in (stack_drop, ring_pop):
            self.assertEqual(list(demands_of(make())), list(demands_of(operation=make())))
            self.assertEqual(list(demands_of_both(make(), make())), list(demands_of_both(make(), make())))


class AgainstRunsTest(unittest.TestCase):
    """For small values the facts of a demand hold just where a run shows the problem."""

    def check(self, operation, demands, shown, top, met):
        """`shown(values)` are the keys of the problems that a run with these values shows."""
        by_key = {}
        for *key, facts in demands:
            by_key.setdefault(tuple(key), set()).add(facts_of(facts))
        for values in small_values(operation.unknowns, top):
            problems = shown(values)
            self.assertLessEqual(problems, set(by_key))
            for key, rows in by_key.items():
                holding = facts_hold(rows, values, 4 * top)
                if holding and key not in problems and key[-1] in ("cell", "result", "array"):
                    # One middle alone may come from itself; of twice as many cells another one does not.
                    self.assertIn(key, shown(tuple((symbol, 2 * number) for symbol, number in values)))
                    met.add("twice")
                else:
                    self.assertIs(holding, key in problems, (str(operation), key, values))
            met |= {key[-1] for key in problems}

    def problems(self, operation, top, met):
        self.check(operation, demands_of(operation),
                   lambda values: problems_at(operation, *split_values(operation, values)), top, met)

    def test_moves_in_one_row(self):
        met = set()
        for line in ("copy x[t] x[s] (m)", "up x[t] x[s] (m)", "down x[t] x[s] (m)", "apart x[t] x[s] (m)", "swap x[t] x[s] (m)"):
            for promise in ("  view[0 .. n]", "  view[0 .. t]\n  view[s .. m + s]\n  view[m + t .. n]"):
                self.problems(on_row(line, head="size t\nsize s\nsize m", tail=("view", *promise.split("\n"))), 4, met)
        self.assertEqual(met, {"range", "clobber", "overlap", "cell"})

    def test_other_statements(self):
        met = set()
        for lines in (["reverse x[t] (m)"], ["fill x[t] (m) 3"], ["resize x (m - t)"], ["resize x (t)", "resize x (m)"],
                      ["fill x[t] (m) 0", "resize x (2*n)", "reverse x[0] (n)"], ["if t < m", "  reverse x[0] (t)", "else",
                      "  resize x (2*m)", "end"], ["reverse x[0] (n)", "reverse x[0] (n)"]):
            for promise in (["  view[0 .. n]"], ["  view[0 .. n] reversed"], ["  view[0 .. t]", "  fill 3 (m)"],
                            ["  view[0 .. m]", "  fill 0 (m)"], []):
                self.problems(on_row(*lines, head="size t\nsize m", tail=["view"] + promise), 5, met)
        self.assertEqual(met, {"amount", "range", "promise", "length", "cell", "twice"})

    def test_buffers(self):
        met = set()
        for lines in (["copy y[t] given[0] (m)"], ["copy x[0] given[t] (m)", "copy y[0] x[0] (m)"], ["swap x[0] y[t] (m)"],
                      ["fill y[0] (m) 3", "fill y[0] (t) 0"], ["reverse y[0] (m)"], []):
            for result in (["  given[0 .. m] reversed"], ["  fill 0 (t)", "  given[0 .. m]"], ["  view[0 .. m]"], []):
                head = "size t\nsize m\ninput given m\noutput y m + t"
                self.problems(on_row(*lines, head=head, tail=["view", "  view[0 .. n]", "result y"] + result), 4, met)
        self.assertEqual(met, {"range", "promise", "cell", "result", "twice"})

    def test_cases_of_the_view(self):
        container = Container.read("""array x n
field f
parameters
premise all()
begin f = 0
begin n = 0
invariant f <= n
case f = 0
case 2*f < n
  x[f .. n] reversed
  x[0 .. f]
case f < n
  x[f .. n]""")
        met = set()
        for lines in (["let f = m"], ["reverse x[0] (m)"], ["resize x (m)"], ["let f = -f + n", "reverse x[0] (n)"]):
            for promise in (["  view[0 .. n]"], ["  view[m .. f]", "  view[0 .. m] reversed"], ["  fill 1 (m)"]):
                self.problems(on_row(*lines, head="size m", tail=["view"] + promise, container=container), 5, met)
        self.assertEqual(met, {"range", "invariant", "view", "promise", "length", "cell", "twice"})

    def test_random_operations(self):
        chance = random.Random(15)
        met = set()
        for _ in range(60):
            operation = random_operation(chance, random_container(chance))
            if sum(1 for _ in demands_of(operation)) < 600:
                self.problems(operation, 3, met)
        self.assertLessEqual({"field", "amount", "range", "invariant", "view", "promise", "length", "cell", "result"}, met)

    def test_catalog(self):
        for make in CATALOG:
            met = set()
            self.problems(make(), 4, met)
            self.assertEqual(met, set())

    def test_both(self):
        chance = random.Random(16)
        met = set()
        bodies = [[], ["reverse x[0] (k)"], ["reverse x[0] (n)", "reverse x[0] (n)"], ["copy x[0] x[k] (k)"], ["resize x (k)"],
                  ["fill x[0] (k) 2", "copy y[0] x[0] (k)"], ["up x[0] x[k] (k)"], ["swap y[0] x[k] (k)"], ["resize x (2*k)"],
                  ["fill x[0] (k) 2", "resize x (n + k)", "fill x[n] (0) 1"], ["fill y[0] (k) 2"], ["copy y[0] x[0] (k)"]]
        bodies = [[line.replace("n + k", "k + n") for line in body] for body in bodies]
        operations = [on_row(*body, head="size k\noutput y n", tail=("view", "result y")) for body in bodies]
        for _ in range(60):
            first, second = chance.choice(operations), chance.choice(operations)
            for by in ("view", "cells"):
                self.check(first, demands_of_both(first, second, by=by), lambda values: {
                    (kind,) for kind in differences_at(first, second, *split_values(first, values), by)}, 6, met)
        self.assertEqual(met, {"first", "second", "length", "cell", "field", "array", "result", "twice"})

    def test_both_without_views(self):
        met = set()
        container = Container.read(str(stack()).replace("invariant len <= cap", "invariant all()"))
        operations = [on_row(*body, container=container) for body in (
            [], ["let len = k"], ["let len = cap"], ["resize buf (k)"], ["resize buf (k)", "let len = k"])]
        for first in operations:
            for second in operations:
                for by in ("view", "cells"):
                    self.check(first, demands_of_both(first, second, by=by), lambda values: {
                        (kind,) for kind in differences_at(first, second, *split_values(first, values), by)}, 4, met)
        self.assertEqual(met, {"view", "length", "field"})

    def test_kept(self):
        met = set()
        for operation in (ring_push(), ring_pop(), ring_turn(), stack_push(), stack_drop(),
                          on_row("let len = k", container=stack()), on_row("resize buf (k)", container=stack())):
            for text in ("len = 0", "len < cap", "any(cap < 2*len, len = 0)", "not(cap = 0)", "all()", "any()"):
                condition = read_condition(text)

                def shown(values):
                    end = ends_at(operation, *split_values(operation, values))
                    broken = end is not None and holds(condition, dict(values)) and not holds(condition, dict(end[0]))
                    return {("broken",)} if broken else set()

                self.check(operation, [("broken", facts) for facts in demands_of_kept(operation, condition)], shown, 5, met)
        self.assertEqual(met, {"broken"})

    def test_bound(self):
        met = set()
        potential = ((read_condition("cap <= 2*len"), Form(len=4, cap=-2)), (All(), ZERO))
        three = ((read_condition("len = 0"), CAP), (read_condition("cap = len"), LEN * -1), (All(), LEN * 3))
        for operation in (stack_push(), stack_drop(), on_row("let len = k", container=stack())):
            for chosen in (None, potential, three):
                for form, fraction in ((K, (1, 1)), (K, (5, 2)), (K + LEN, (2, 1)), (ZERO, (1, 1)), (CAP, (0, 3))):
                    p, q = fraction

                    def value(fields):
                        for condition, own in chosen or potential[1:]:
                            if holds(condition, dict(fields)):
                                return worth(own, dict(fields))

                    def shown(values):
                        fields, sizes = split_values(operation, values)
                        end = ends_at(operation, fields, sizes)
                        if end is None:
                            return set()
                        spread = end[1] + value(end[0]) - value(fields)
                        return {("dear",)} if q * spread > p * worth(form, dict(values)) else set()

                    demands = demands_of_bound(operation, chosen, form, fraction)
                    self.check(operation, [("dear", facts) for facts in demands], shown, 5, met)
        self.assertEqual(met, {"dear"})

    def test_containers(self):
        chance = random.Random(17)
        met = set()
        for container in [stack()] + [random_container(chance) for _ in range(60)]:
            # No field is called as the parameter.
            rows = [facts for facts in plain_sets_of(demands_of_container(container)) if "n" not in {text for text, _ in facts}]
            for values in small_values(container.fields, 4):
                cells = [(0,) * dict(values)[length] for _, length in container.arrays]
                bare = holds(container.invariant, dict(values)) and seen(container, values, cells) is None
                self.assertIs(facts_hold(rows, values, 1), bare, (str(container), values))
                met.add(bare)
        self.assertEqual(met, {True, False})

    def test_starts(self):
        met = set()
        for premise, first, invariant in [
            ("all()", "n - m", "len <= cap"), ("m < n", "2*m - n", "len < cap"), ("m = n", "m", "any()"),
            ("any(m < n, n = 0)", "0", "not(len = cap)"), ("any()", "m", "any()"), ("not(n < 2*m)", "n - 2*m", "2*len <= cap"),
        ]:
            forms = {"n - m": "-m + n", "n - 2*m": "-2*m + n"}
            text = str(stack()).replace("parameters n", "parameters n m").replace("premise all()", f"premise {premise}").replace(
                "begin len = 0", f"begin len = {forms.get(first, first)}").replace("invariant len <= cap", f"invariant {invariant}")
            container = Container.read(text.replace("case all()\n  buf[0 .. len]", "case all()"))
            rows = plain_sets_of(demands_of_container(container))
            for values in small_values(("m", "n"), 6):
                begun = {field: worth(form, dict(values)) for field, form in container.begin}
                bad = holds(container.premise, dict(values)) and min(begun.values()) >= 0 and not holds(container.invariant, begun)
                self.assertIs(facts_hold(rows, values, 1), bad, (text, values))
                met.add(bad)
        self.assertEqual(met, {True, False})


class WrongArgumentsTest(unittest.TestCase):
    def check(self, error, call, *args, **named):
        """The error is raised at the latest when the first item is asked for."""
        found = raised(error, lambda: next(iter(call(*args, **named))))
        self.assertIs(type(found), error)
        return found

    def test_generators(self):
        for function in (demands_of, demands_of_both, demands_of_kept, demands_of_bound, demands_of_container):
            self.assertTrue(inspect.isgeneratorfunction(function))

    def test_no_operation(self):
        for value in STRANGE + [True, 1, str(stack_push()), stack(), (), Operation]:
            self.assertIs(self.check(NotAnOperation, demands_of, value).value, value)
            self.assertIs(self.check(NotAnOperation, demands_of_kept, value, None).value, value)
            self.assertIs(self.check(NotAnOperation, demands_of_bound, value, None, None, None).value, value)
            for other in (stack_push(), None):
                self.assertIs(self.check(NotAnOperation, demands_of_both, value, other, by=None).value, value)
            self.assertIs(self.check(NotAnOperation, demands_of_both, ring_push(), value, by=None).value, value)

    def test_no_container(self):
        for value in STRANGE + [True, 1, str(stack()), stack_push(), (), Container]:
            self.assertIs(self.check(NotAContainer, demands_of_container, value).value, value)

    def test_not_comparable(self):
        head = "operation one\nsize k\nsize m\ninput a k\ninput b m\noutput c k\npremise all()\nbody\nview\nresult c"
        first = Operation.read(stack(), head)
        for old, new in [("size k\nsize m", "size m\nsize k"), ("size m", "size l"), ("input a k", "input a m"),
                         ("input a k\ninput b m", "input b m\ninput a k"), ("input a", "input d"), ("output c k", "output c m"),
                         ("output c k", "output d k")]:
            text = head.replace(old, new).replace("input b m", "input b k" if new == "size l" else "input b m")
            text = text.replace("result c", "result d") if new == "output d k" else text
            second = Operation.read(stack(), text)
            for by in ("view", "cells", None):
                self.check(NotComparable, demands_of_both, first, second, by=by)
                self.check(NotComparable, demands_of_both, second, first, by=by)
        self.check(NotComparable, demands_of_both, ring_pop(), stack_drop(), by=None)
        other = Operation.read(Container.read(str(stack()).replace("parameters n", "parameters n m")), head)
        self.check(NotComparable, demands_of_both, first, other)
        # Names, premises, bodies and promises may differ.
        more = Operation.read(Container.read(str(stack())), head.replace("operation one", "operation two").replace(
            "premise all()", "premise k < m").replace("body", "body\n  let len = k").replace("result c", "  fill 1 (k)\nresult c"))
        self.assertGreater(len(list(demands_of_both(first, more))), 1)

    def test_by(self):
        for value in STRANGE + [True, 1, "", "views", "cell", "View", ("view",), b"view"]:
            self.assertIs(self.check(InvalidBy, demands_of_both, stack_push(), stack_push(), by=value).value, value)
        with self.assertRaises(TypeError):
            demands_of_both(stack_push(), stack_push(), "view")

    def test_condition(self):
        for value in STRANGE + [True, 1, "all()", ZERO, (), Below(K, LEN), Upto(Form.read("@"), LEN), Below(Form(n=1), CAP)]:
            self.assertIs(self.check(NotACondition, demands_of_kept, stack_push(), value).value, value)
        self.assertEqual(list(demands_of_kept(operation=stack_push(), condition=All())), [])

    def test_potential(self):
        good, last = (Below(LEN, CAP), LEN), (All(), ZERO)
        for value in STRANGE[1:] + [True, 1, "all()", (), last, (good,), (last, good), (good, good, good, last), (last,) * 4,
                                    [last], (list(last),), (("all()", ZERO),), ((All(), "0"),), ((All(), 0),), ((All(),),),
                                    ((All(), ZERO, ZERO),), ((All(), K),), ((Below(K, LEN), ZERO), last), ((All(All()), ZERO),),
                                    (None, last), (good, None), ((All(), Form.read("@")),), ((All(), Form(n=1)),), (last, None),
                                    ((ZERO, All()),), ((None, None),), (good, good, good)]:
            for later in ((K, (1, 1)), (None, None)):
                self.assertIs(self.check(InvalidPotential, demands_of_bound, stack_push(), value, *later).value, value)
        for potential in (None, (last,), (good, last), (good, good, last), (last, last), ((All(), LEN * -9),)):
            self.assertGreater(len(list(demands_of_bound(stack_push(), potential, K, (1, 1)))), 0)

    def test_form(self):
        for value in STRANGE + [True, 1, "k", (), All(), Form(k=-1), Form(k=2, len=-1), Form(n=1), Form.read("@"), Form(buf=1),
                                Form(k=1, given=1)]:
            for fraction in ((1, 1), None):
                self.assertIs(self.check(NotAForm, demands_of_bound, stack_push(), None, value, fraction).value, value)

    def test_fraction(self):
        for value in STRANGE + [True, 1, "1/1", (), (1,), (1, 1, 1), [1, 1], (1, 0), (-1, 1), (1, -1), (True, 1), (1, True),
                                (1, "1"), ("1", 1), (None, 1), (1, None), (0, 0)]:
            self.assertIs(self.check(InvalidFraction, demands_of_bound, stack_push(), None, K, value).value, value)
        named = demands_of_bound(fraction=(4, 2), form=K, potential=None, operation=stack_push())
        self.assertEqual(list(named), list(demands_of_bound(stack_push(), None, K, (4, 2))))


if __name__ == "__main__":
    unittest.main()
