import random
import unittest

from blockmoves.alike import alike, find_difference
from blockmoves.catalog import ring, ring_pop, ring_push, ring_turn, stack, stack_drop, stack_push
from blockmoves.containers import Container
from blockmoves.errors import InvalidBy, NotAnOperation, NotComparable
from blockmoves.operations import Operation
from makers import MARKED, PAIR, ROW, is_small, made, varied
from samples import STRANGE, raised
from simulator import differences_at, random_container, random_operation, small_values, split_values

CATALOG = (ring_push, ring_pop, ring_turn, stack_push, stack_drop)


class AlikeTest(unittest.TestCase):
    def check(self, first, second, by, top=4):
        """What is told, against pairs of runs over all small values."""
        values = find_difference(first, second, by=by)
        self.assertIs(alike(first, second, by=by), values is None)
        if values is not None:
            self.assertIs(type(values), tuple)
            self.assertEqual(tuple(symbol for symbol, _ in values), first.unknowns)
            self.assertTrue(all(type(number) is int and number >= 0 for _, number in values))
            if is_small(values):
                self.assertTrue(differences_at(first, second, *split_values(first, values), by), (str(first), str(second), values))
        else:
            for values in small_values(first.unknowns, top):
                self.assertFalse(differences_at(first, second, *split_values(first, values), by), (str(first), str(second), values))
            return True
        return False

    def test_example(self):
        begin, end = "operation turn\nsize k\npremise k <= len\nbody\n", "view\n  view[k .. len]\n  view[0 .. k]"
        three = Operation.read(
            stack(), begin + "  reverse buf[0] (k)\n  reverse buf[k] (-k + len)\n  reverse buf[0] (len)\n" + end)
        other = Operation.read(
            stack(), begin + "  reverse buf[0] (len)\n  reverse buf[0] (-k + len)\n  reverse buf[-k + len] (k)\n" + end)
        two = Operation.read(stack(), begin + "  reverse buf[0] (len)\n  reverse buf[0] (k)\n" + end)
        self.assertEqual(
            [alike(three, other), alike(three, other, by="cells"), find_difference(three, other), alike(three, two),
             find_difference(three, two) is None],
            [True, True, None, False, False])

    def test_catalog(self):
        for make in CATALOG:
            for by in ("view", "cells"):
                self.assertTrue(self.check(make(), make(), by, 3))

    def test_by(self):
        # (first body, second body, alike by the view, alike by the cells)
        for first, second, view, cells in [
            (["fill buf[len] (cap - len) 3"], [], True, False),
            (["fill buf[0] (len) 3"], [], False, False),
            (["fill buf[0] (len) 3"], ["fill buf[0] (cap) 3"], True, False),
            (["resize buf (2*cap)"], [], True, False),
            (["resize buf (len)"], ["resize buf (cap)"], True, False),
            (["let len = 0"], ["let len = 0", "fill buf[0] (cap) 1"], True, False),
            (["let len = 0"], ["resize buf (0)", "let len = 0"], True, False),
            (["let len = 0", "resize buf (0)"], ["resize buf (0)", "let len = 0"], True, True),
            (["resize buf (0)", "resize buf (len)"], ["fill buf[0] (len) 0", "resize buf (len)"], True, True),
            (["resize buf (0)", "resize buf (cap)"], ["resize buf (0)"], False, True),
            (["reverse buf[0] (len)", "reverse buf[0] (len)"], [], True, True),
            (["reverse buf[0] (len)"], [], False, False),
            (["fill buf[0] (len) 3"], ["fill buf[0] (len) 4"], False, False),
            (["copy buf[0] buf[0] (len)"], ["reverse buf[len] (0)"], True, True),
            # A run that stops is like nothing.
            (["let len = -len"], ["let len = -len"], False, False),
            (["reverse buf[0] (2*len)"], ["reverse buf[0] (2*len)"], False, False),
            # Neither has a view.
            (["resize buf (0)"], ["resize buf (0)"], False, True),
        ]:
            one, other = made(stack(), *first, head=""), made(stack(), *second, head="")
            for left, right in ((one, other), (other, one)):
                self.assertIs(self.check(left, right, "view"), view, (first, second))
                self.assertIs(self.check(left, right, "cells"), cells, (first, second))
                self.assertIs(alike(left, right), view)
                self.assertEqual(find_difference(left, right), find_difference(left, right, by="view"))

    def test_premises(self):
        # Only calls that both allow count.
        for first, second, expected in [("k <= len", "len <= k", False), ("k < len", "len < k", True), ("k = 0", "all()", True),
                                        ("any()", "all()", True), ("all(k <= len, len <= k)", "all()", False)]:
            one = made(stack(), "fill buf[0] (k) 1", head="size k", premise=f"all(k <= cap, {first})")
            other = made(stack(), head="size k", premise=second)
            self.assertIs(self.check(one, other, "view"), expected, (first, second))
            self.assertIs(self.check(other, one, "cells"), expected, (first, second))

    def test_promises_and_names_do_not_count(self):
        text = str(stack_drop())
        other = Operation.read(stack(), text.replace("operation drop", "operation other").replace("view[0 .. k]", "fill 4 (-k)"))
        self.assertTrue(self.check(stack_drop(), other, "cells"))

    def test_buffers(self):
        head = "size k\ninput a k\ninput b k\noutput y k\noutput z k"
        for first, second, expected in [
            (["copy y[0] a[0] (k)", "copy z[0] b[0] (k)"], ["copy z[0] b[0] (k)", "copy y[0] a[0] (k)"], True),
            (["copy y[0] a[0] (k)", "copy z[0] b[0] (k)"], ["copy y[0] b[0] (k)", "copy z[0] a[0] (k)", "swap y[0] z[0] (k)"], True),
            (["copy y[0] a[0] (k)"], ["copy z[0] a[0] (k)"], False), (["copy y[0] a[0] (k)"], ["copy y[0] b[0] (k)"], False),
            (["copy y[0] a[0] (k)"], ["copy y[0] a[0] (k)", "reverse y[0] (k)"], False), (["fill z[0] (k) 0"], [], True),
            (["fill z[0] (k) 1"], [], False), (["fill y[0] (k) 1"], [], False), (["reverse y[0] (k)"], [], True),
            (["fill y[0] (k) 1", "swap y[0] z[0] (k)"], ["fill z[0] (k) 1"], True),
        ]:
            one, other = [made(ROW, *body, head=head, results=[["y"], ["z"]]) for body in (first, second)]
            for by in ("view", "cells"):
                self.assertIs(self.check(one, other, by), expected, (first, second))

    def test_cases(self):
        # A ring is turned by one cell, or its content is laid at the beginning.
        still = made(ring(), head="")
        moved = made(ring(), "if head + len <= cap", "  copy buf[0] buf[head] (len)", "  let head = 0", "end", head="")
        self.assertTrue(self.check(still, moved, "view"))
        self.assertFalse(self.check(still, moved, "cells"))
        wrong = made(ring(), "copy buf[0] buf[head] (cap - head)", "let head = 0", head="")
        self.assertFalse(self.check(still, wrong, "view"))
        both = [made(ring(), *rows, head="") for rows in (
            ["if len = 0", "  let head = 0", "end"], ["if len <= 0", "  let head = 0", "else", "  let head = head", "end"])]
        self.assertTrue(self.check(*both, "cells"))
        turned = made(PAIR, "reverse left[0] (used)", head="")
        self.assertFalse(self.check(turned, made(PAIR, head=""), "view"))
        self.assertTrue(self.check(made(PAIR, "reverse right[used] (high - used)", "reverse right[used] (high - used)", head="",
                                        premise="used <= high"), made(PAIR, head=""), "cells"))
        fields = made(MARKED, "let f = g", "let g = f", head=""), made(MARKED, "let g = f", "let f = g", head="")
        self.assertTrue(self.check(*fields, "view"))
        self.assertFalse(self.check(*fields, "cells"))

    def test_random_operations(self):
        chance = random.Random(31)
        found = {True: 0, False: 0}
        for _ in range(150):
            first = random_operation(chance, random_container(chance))
            second = varied(chance, first)
            if second is not None:
                for by in ("view", "cells"):
                    found[self.check(first, second, by, 3)] += 1
        self.assertGreater(min(found.values()), 40)

    def test_equal_calls(self):
        one, other = stack_push(), Operation.read(stack(), str(stack_push()).replace("2*k + 2*len", "3*k + 2*len"))
        self.assertEqual(find_difference(one, other, by="cells"), find_difference(second=other, first=one, by="cells"))
        self.assertIs(alike(by="cells", second=other, first=one), False)
        self.assertIs(alike(one, other), True)


class WrongArgumentsTest(unittest.TestCase):
    def test_no_operation(self):
        for function in (alike, find_difference):
            for value in STRANGE + [True, 1, str(stack_drop()), stack(), (stack_drop(),)]:
                self.assertIs(raised(NotAnOperation, function, value, None, by=None).value, value)
                self.assertIs(raised(NotAnOperation, function, ring_push(), value, by=None).value, value)

    def test_not_comparable(self):
        head = "size k\ninput a k\noutput y k"
        first = made(ROW, head=head, results=[["y"]])
        others = [made(ROW, head=head.replace(old, new), results=[["y" if "output y" in head.replace(old, new) else "z"]])
                  for old, new in [("size k", "size k\nsize l"), ("input a k", "input a n"), ("input a", "input b"),
                                   ("input a k\n", ""), ("output y k", "output y n"), ("output y", "output z")]]
        others.append(made(Container.read(str(ROW).replace("all()", "all(all())", 1)), head=head, results=[["y"]]))
        for function in (alike, find_difference):
            for other in others:
                self.assertIs(type(raised(NotComparable, function, first, other, by=None)), NotComparable)
            raised(NotComparable, function, stack_push(), ring_push())
            self.assertIn(function(first, made(Container.read(str(ROW)), head=head, results=[["y"]])), (True, None))

    def test_by(self):
        for function in (alike, find_difference):
            for value in STRANGE + [True, 1, "", "views", "View", ("view",), b"view", "length"]:
                self.assertIs(raised(InvalidBy, function, stack_drop(), stack_drop(), by=value).value, value)
            with self.assertRaises(TypeError):
                function(stack_drop(), stack_drop(), "view")


if __name__ == "__main__":
    unittest.main()
