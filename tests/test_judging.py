import inspect
import random
import unittest

from blockmoves.alike import alike
from blockmoves.catalog import ring, ring_pop, ring_push, ring_turn, stack, stack_drop, stack_push
from blockmoves.errors import NotAnOperation
from blockmoves.judging import enough, is_right, needless, problems, reached
from blockmoves.operations import Operation
from makers import MARKED, PAIR, ROW, is_small, made, met_at, stop_at
from samples import STRANGE, raised
from simulator import problems_at, random_container, random_operation, small_values, split_values

CATALOG = (ring_push, ring_pop, ring_turn, stack_push, stack_drop)
WORDS = ("apart", "down", "up")


class ProblemsTest(unittest.TestCase):
    def check(self, operation, top=4):
        """What is told, against runs over all small values; returns the pairs (place, kind)."""
        found = list(problems(operation))
        keys = [(place, kind) for place, kind, _ in found]
        self.assertEqual(keys, sorted(set(keys)))
        self.assertIs(is_right(operation), not keys)
        for place, kind, values in found:
            self.assertIs(type(values), tuple)
            self.assertEqual(tuple(symbol for symbol, _ in values), operation.unknowns)
            self.assertTrue(all(type(number) is int and number >= 0 for _, number in values))
            if is_small(values):
                self.assertIn((place, kind), problems_at(operation, *split_values(operation, values)), str(operation))
        for values in small_values(operation.unknowns, top):
            self.assertLessEqual(problems_at(operation, *split_values(operation, values)), set(keys), (str(operation), values))
        return keys

    def test_example(self):
        wrong = Operation.read(stack(), str(stack_drop()).replace("up", "down"))
        more = Operation.read(stack(), str(stack_drop()).replace("  let", "  fill buf[-k + len] (k) 0\n  let"))
        self.assertEqual(
            [is_right(stack_drop()), enough(stack_drop()), needless(more), reached(more), list(problems(wrong))[0][:2],
             is_right(ring_push()), needless(ring_push())],
            [True, ((0, WORDS), (1, ("up",))), (2,), (0, 1, 2, 3), (1, "clobber"), True, ()])

    def test_catalog(self):
        for make in CATALOG:
            self.assertEqual(self.check(make()), [])

    def test_wrong_rings(self):
        text = str(ring_push())
        for old, new, keys in [
            ("if head + k + len <= cap", "if head + len <= cap", [(1, "range")]),
            ("  let len = k + len\n", "", [(6, "length")]),
            ("given[cap - head - len]", "given[0]", [(7, "cell")]),
            ("  given[0 .. k]", "  given[0 .. k] reversed", [(7, "cell")]),
            ("  view[0 .. len]\n", "  view[0 .. len]\n  fill 3 (-k)\n", [(7, "promise")]),
            ("  view[0 .. len]\n", "  view[0 .. len]\n  fill 3 (0)\n", []),
            ("else\n      apart buf[-cap + head + len]", "else\n      apart buf[0]", [(7, "cell")]),
            ("premise k + len <= cap", "premise all(k + len <= cap, k < 0)", []),
        ]:
            self.assertIn(old, text)
            self.assertEqual(self.check(Operation.read(ring(), text.replace(old, new, 1))), keys, new)
        loose = Operation.read(ring(), text.replace("premise k + len <= cap", "premise k + len <= 2*cap"))
        self.assertEqual(self.check(loose), [(4, "range"), (5, "range"), (7, "cell"), (7, "invariant")])

    def test_one_array(self):
        whole = ["view[0 .. n]"]
        for operation, keys in [
            (made(ROW, head=""), [(0, "length")]),
            (made(ROW, head="", view=whole), []),
            (made(ROW, head="", premise="n = 0"), []),
            (made(ROW, "reverse x[0] (k)", view=whole), [(0, "range"), (1, "cell")]),
            (made(ROW, "reverse x[0] (0)", view=whole), []),
            (made(ROW, "reverse x[k] (-k)", view=whole), [(0, "amount")]),
            (made(ROW, "reverse x[0] (k)", premise="k <= n", view=["view[0 .. k] reversed", "view[k .. n]"]), []),
            # One cell alone does not show a reversal, so more of them are given.
            (made(ROW, "reverse x[0] (n)", head="", view=whole), [(1, "cell")]),
            (made(ROW, "copy x[0] x[k] (k)", premise="2*k = n", view=["view[k .. n]", "view[k .. n]"]), []),
            (made(ROW, "copy x[0] x[k] (k)", premise="2*k = n", view=["view[k .. n]", "view[0 .. k]"]), [(1, "cell")]),
            (made(ROW, "up x[0] x[k] (k)", premise="2*k <= n", view=["view[k .. 2*k]", "view[k .. n]"]), []),
            (made(ROW, "down x[0] x[k] (-k + n)", premise="k <= n", view=["view[k .. n]", "view[-k + n .. n]"]), [(0, "clobber")]),
            (made(ROW, "apart x[0] x[k] (-k + n)", premise="k <= n", view=["view[k .. n]", "view[-k + n .. n]"]), [(0, "overlap")]),
            (made(ROW, "swap x[0] x[k] (k)", premise="2*k <= n", view=["view[k .. 2*k]", "view[0 .. k]", "view[2*k .. n]"]), []),
            (made(ROW, "swap x[0] x[0] (k)", premise="k <= n", view=whole), [(0, "overlap")]),
            (made(ROW, "fill x[0] (n) 5", head="", view=["fill 5 (n)"]), []),
            (made(ROW, "fill x[0] (n) 5", head="", view=["fill 4 (n)"]), [(1, "cell")]),
            (made(ROW, "fill x[0] (n) 5", head="", view=["fill 5 (2*n)"]), [(1, "length")]),
            (made(ROW, "fill x[0] (n) -5", head="", view=whole), [(1, "cell")]),
            (made(ROW, "resize x (0)", head=""), []),
            (made(ROW, "resize x (0)", "resize x (k)", view=["fill 0 (k)"]), []),
            (made(ROW, "resize x (k)", view=["view[0 .. k]"]), [(1, "promise")]),
            (made(ROW, "resize x (-k + n)", view=["view[0 .. -k + n]"]), [(0, "amount")]),
            (made(ROW, "resize x (2*n)", head="", view=["view[0 .. n]", "fill 0 (n)"]), []),
            (made(ROW, head="", view=["view[n .. 0]"]), [(0, "promise")]),
            (made(ROW, head="", view=["view[0 .. 2*n]"]), [(0, "promise")]),
            (made(ROW, head="", view=["view[-n .. n]"]), [(0, "promise")]),
            (made(ROW, head="", view=["fill 0 (n)", "fill 0 (-n)"]), [(0, "promise")]),
        ]:
            self.assertEqual(self.check(operation, 7), keys, str(operation))

    def test_buffers_and_fields(self):
        two = "size k\ninput a k\ninput b k\noutput y k\noutput z k"
        for operation, keys in [
            (made(ROW, head="size k\noutput y k", premise="n = 0", results=[["y"]]), [(0, "result")]),
            (made(ROW, head="size k\noutput y k", premise="n = 0", results=[["y", "fill 0 (k)"]]), []),
            (made(ROW, head="size k\noutput y -k + n", premise="n = 0", results=[["y"]]), []),
            (made(ROW, "copy y[0] x[0] (k)", head="size k\noutput y k\noutput z k", premise="k = n", view=["view[0 .. n]"],
                  results=[["y", "view[0 .. n]"], ["z", "fill 0 (n)"]]), []),
            (made(ROW, "copy y[0] a[0] (k)", "copy z[0] b[0] (k)", head=two, premise="n = 0",
                  results=[["y", "a[0 .. k]"], ["z", "b[0 .. k]"]]), []),
            (made(ROW, "copy y[0] a[0] (k)", "copy z[0] a[0] (k)", head=two, premise="n = 0",
                  results=[["y", "a[0 .. k]"], ["z", "b[0 .. k]"]]), [(2, "result")]),
            (made(ROW, "copy y[0] a[0] (k)", "copy z[0] b[0] (k)", "swap y[0] z[0] (k)", head=two, premise="n = 0",
                  results=[["y", "b[0 .. k]"], ["z", "a[0 .. k]"]]), []),
            (made(MARKED, "let f = f - g", head="", view=["view[0 .. n]"]), [(0, "field")]),
            (made(MARKED, "let f = 2*f", head="", view=["view[0 .. n]"]), [(1, "invariant")]),
            (made(MARKED, "let f = f + g", head="", premise="f + g <= n", view=["view[0 .. n]"]), []),
            (made(MARKED, "let f = g", "let g = f", head="", view=["view[0 .. n]"]), []),
            (made(PAIR, "let used = 0", head="", premise="used < high", view=["view[used .. high]"]), [(1, "length")]),
            (made(PAIR, "let used = 0", head="", premise="high <= used"), [(1, "length")]),
            (made(PAIR, "reverse left[0] (used)", head="", premise="high <= used", view=["view[0 .. used] reversed"]), []),
        ]:
            self.assertEqual(self.check(operation, 5), keys, str(operation))

    def test_random_operations(self):
        chance = random.Random(21)
        met, right = set(), 0
        for _ in range(250):
            keys = self.check(random_operation(chance, random_container(chance)), 3)
            right += not keys
            met |= {kind for _, kind in keys}
        self.assertGreater(right, 3)
        self.assertEqual(met, {"field", "amount", "range", "clobber", "overlap", "invariant", "view", "promise", "length",
                               "cell", "result"})

    def test_equal_calls(self):
        for make in (ring_push, ring_pop, ring_turn, stack_drop):
            lines = str(make()).split("\n")
            wrong = Operation.read(make().container, "\n".join("premise all()" if line.startswith("premise") else line for line in lines))
            self.assertEqual(list(problems(wrong)), list(problems(operation=wrong)))
            self.assertIs(is_right(operation=wrong), False)

    def test_generator(self):
        self.assertTrue(inspect.isgeneratorfunction(problems))


class PlacesTest(unittest.TestCase):
    def test_reached(self):
        body = ["if k < n", "  reverse x[0] (k)", "  if n < k", "    reverse x[0] (n)", "  else", "    if k = 0", "    end", "  end",
                "else", "  fill x[k] (n) 1", "end", "resize x (0)"]
        operation = made(ROW, *body)
        self.assertEqual(reached(operation), (0, 1, 2, 4, 5, 6))
        # It comes to the Fill, which stops; behind it, only with no cells.
        self.assertEqual(reached(made(ROW, *body, premise="n <= k")), (0, 5, 6))
        self.assertEqual(reached(made(ROW, *body, premise="all(n <= k, 0 < n)")), (0, 5))
        self.assertEqual(reached(made(ROW, *body, premise="k < n")), (0, 1, 2, 4, 6))
        self.assertEqual(reached(made(ROW, *body, premise="any()")), ())
        self.assertEqual(reached(made(ROW, *body, head="size k\ninput a -k - n", premise="0 < k")), ())
        self.assertEqual(reached(made(ROW)), ())
        self.assertEqual(reached(made(MARKED, "let f = -k", "let g = k", premise="0 < k")), (0,))
        self.assertEqual(reached(made(MARKED, "let f = -k", "let g = k")), (0, 1))
        for make in CATALOG:
            self.assertEqual(reached(make()), tuple(range(make().places)))

    def test_reached_at_random(self):
        chance = random.Random(22)
        for _ in range(120):
            operation = random_operation(chance, random_container(chance))
            found = reached(operation=operation)
            self.assertEqual(found, tuple(sorted(set(found))))
            met = set()
            for values in small_values(operation.unknowns, 4):
                met |= met_at(operation, values)
            self.assertLessEqual(met, set(found))
            # What small values do not come to is come to by few.
            self.assertLessEqual(len(set(found) - met), 1)

    def test_enough(self):
        for line, premise, words in [
            ("copy x[0] x[k] (k)", "all()", WORDS), ("copy x[0] x[k] (2*k)", "all()", ("up",)),
            ("copy x[k] x[0] (2*k)", "all()", ("down",)), ("copy x[k] x[k] (n)", "all()", ("down", "up")),
            ("copy x[k] x[k] (k)", "all()", ("down", "up")), ("down x[0] x[k] (2*k)", "all()", ("up",)),
            ("apart x[0] x[k] (2*k)", "n < 2*k", WORDS), ("apart x[0] x[k] (2*k)", "any()", WORDS),
            ("up x[k] x[0] (2*k)", "k = 0", WORDS), ("copy x[0] x[n] (k)", "all()", WORDS),
            ("copy x[0] x[k] (-k)", "all()", WORDS), ("up x[m] x[k] (n)", "all()", ("down", "up")),
            ("up x[m] x[k] (k)", "all()", ()), ("up x[m] x[k] (k)", "m <= k", ("up",)), ("up x[m] x[k] (k)", "k < m", ("down",)),
        ]:
            self.assertEqual(enough(made(ROW, line, head="size k\nsize m", premise=premise)), ((0, words),), (line, premise))
        body = ["if k < n", "  up x[0] x[k] (-k + n)", "else", "  down y[0] x[0] (n)", "  reverse x[0] (k)",
                "  copy x[0] x[0] (n)", "end", "apart y[0] y[k] (n)"]
        operation = made(ROW, *body, head="size k\noutput y 2*n", results=[["y"]])
        # Behind the Reverse, which lets no more than n = k pass, nothing keeps blocks from being one.
        self.assertEqual(enough(operation), ((1, ("up",)), (2, WORDS), (4, ("down", "up")), (5, ("up",))))
        self.assertEqual(enough(made(ROW, "reverse x[0] (n)")), ())
        self.assertEqual(enough(operation=ring_push()), tuple((place, WORDS) for place in (1, 3, 4, 5)))

    def test_enough_at_random(self):
        chance = random.Random(23)
        shown = 0
        for _ in range(80):
            operation = random_operation(chance, random_container(chance))
            told = dict(enough(operation))
            copies = [place for place, one in enumerate(operation.statements) if one.WORD in ("copy", *WORDS)]
            self.assertEqual(list(told), copies)
            for place in copies:
                for word in WORDS:
                    stops = {stop_at(operation, values, place, word) for values in small_values(operation.unknowns, 4)}
                    if stops & {(place, "clobber"), (place, "overlap")}:
                        self.assertNotIn(word, told[place])
                        shown += 1
        self.assertGreater(shown, 10)

    def test_needless(self):
        for body, premise, places in [
            (["reverse x[0] (0)"], "all()", (0,)), (["reverse x[0] (k)"], "all()", ()), (["reverse x[0] (k)"], "k = 0", (0,)),
            (["reverse x[0] (k)"], "any()", (0,)),
            # Each of both alone can be left out, but not both.
            (["fill x[0] (n) 1", "fill x[0] (n) 1"], "all()", (0, 1)),
            # Neither of both alone can be left out, though both can.
            (["reverse x[0] (n)", "reverse x[0] (n)"], "all()", ()),
            (["fill x[0] (n) 2", "fill x[0] (n) 1"], "all()", (0,)),
            (["fill x[0] (n) 0", "resize x (0)", "resize x (k)", "reverse x[0] (k)"], "all()", (0, 1, 3)),
            (["if k < n", "  reverse x[0] (n)", "  fill x[0] (n) 3", "else", "  fill x[0] (n) 3", "end"], "all()", (1,)),
            (["if k < n", "  fill x[0] (n) 3", "else", "  fill x[0] (n) 4", "end", "fill x[0] (n) 5"], "all()", (0, 1, 2)),
            (["if k < n", "  if n < k", "    reverse x[0] (n)", "  end", "end", "resize x (n)"], "all()", (0, 1, 2, 3)),
            (["if n < n", "else", "  fill x[0] (n) 3", "end"], "all()", ()),
            (["if n < n", "  fill x[0] (n) 4", "else", "  reverse x[0] (0)", "  fill x[0] (n) 3", "end"], "all()", (1, 2)),
            # It stops, so it is like nothing, not even itself.
            (["reverse x[0] (2*n)", "reverse x[0] (0)"], "0 < n", ()),
        ]:
            self.assertEqual(needless(made(ROW, *body, premise=premise)), places, (body, premise))
        # The view alone counts: cells outside of it, and fields that it does not have, may differ.
        self.assertEqual(needless(made(stack(), "fill buf[len] (cap - len) 3", head="")), (0,))
        self.assertEqual(needless(made(MARKED, "let f = 0", "let g = f", head="")), (0, 1))
        self.assertEqual(needless(made(ROW, "fill y[0] (k) 0", "fill y[0] (k) 2", head="size k\noutput y k", results=[["y"]])), (0,))
        for make in CATALOG[:-1]:
            self.assertEqual(needless(operation=make()), ())

    def test_needless_is_alike(self):
        lines = ["fill x[0] (k) 1", "reverse x[0] (k)", "copy x[0] x[k] (k)", "resize x (n)"]
        chance = random.Random(24)
        for _ in range(40):
            body = [chance.choice(lines) for _ in range(3)]
            premise = chance.choice(["2*k <= n", "n = k", "k = 0"])
            operation = made(ROW, *body, premise=premise)
            expected = tuple(place for place in range(3)
                             if alike(operation, made(ROW, *body[:place], *body[place + 1:], premise=premise)))
            self.assertEqual(needless(operation), expected)


class WrongArgumentsTest(unittest.TestCase):
    def test_no_operation(self):
        for value in STRANGE + [True, 1, "", str(stack_drop()), stack(), (), (stack_drop(),)]:
            for function in (is_right, reached, enough, needless, lambda value: next(problems(value))):
                self.assertIs(raised(NotAnOperation, function, value).value, value)


if __name__ == "__main__":
    unittest.main()
