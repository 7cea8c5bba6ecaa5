"""Strips, and what calls show, however great their values are."""

import random
import unittest

from blockmoves.catalog import ring_pop, ring_push, stack_drop
from blockmoves.conditions import All, read_condition
from blockmoves.forms import Form
from blockmoves.operations import Operation
from blockmoves.shows import shown_problems, shows_breach, shows_difference, shows_excess
from blockmoves.strips import are_same, cells_in, cut, letter_strip, row_strip, strip_length, turned
from makers import ROW, made, random_condition, varied
from samples import GREAT
from simulator import (
    differences_at, ends_at, holds, problems_at, random_container, random_operation, small_values, split_values, worth)

ROWS = {"x": (1, 2, 3, 4, 5, 6), "y": (11, 12, 13)}


def random_strip(chance):
    strip = ()
    for _ in range(chance.randint(0, 4)):
        part = chance.choice([row_strip("x", 6), row_strip("y", 3), letter_strip(7, chance.randint(0, 2)), row_strip("x", 6)])
        part = cut(part, chance.randint(0, 3), chance.randint(0, 6))
        strip = strip + (turned(part) if chance.random() < 0.4 else part)
    return strip


class StripsTest(unittest.TestCase):
    def test_against_tuples(self):
        chance = random.Random(71)
        strips = [random_strip(chance) for _ in range(150)]
        for strip in strips:
            cells = cells_in(strip, ROWS)
            self.assertEqual(strip_length(strip), len(cells))
            self.assertEqual(cells_in(turned(strip), ROWS), cells[::-1])
            for first in range(len(cells) + 1):
                last = chance.randint(first, len(cells) + 2)
                self.assertEqual(cells_in(cut(strip, first, last), ROWS), cells[first:last])
            for other in strips:
                self.assertIs(are_same(strip, other), cells == cells_in(other, ROWS))

    def test_one_cell_and_none(self):
        for many in (0, 1, 2):
            self.assertIs(are_same(row_strip("x", many), turned(row_strip("x", many))), many < 2)
            self.assertIs(are_same(row_strip("x", many), row_strip("y", many)), many < 1)
            self.assertIs(are_same(letter_strip(1, many), letter_strip(2, many)), many < 1)
            self.assertTrue(are_same(letter_strip(1, many), turned(letter_strip(1, many))))
        self.assertEqual((row_strip("x", 0), letter_strip(0, 0), letter_strip(0, -1)), ((), (), ()))


class ShowsTest(unittest.TestCase):
    def test_against_runs(self):
        chance = random.Random(72)
        met = set()
        for _ in range(80):
            first = random_operation(chance, random_container(chance))
            second = varied(chance, first) or first
            fields = first.container.fields
            condition = random_condition(chance, fields)
            potential = ((random_condition(chance, fields), Form(len=2, cap=-1)), (All(), Form(len=1)))
            form = Form(k=1, len=1)
            for values in small_values(first.unknowns, 3):
                parts = split_values(first, values)
                problems = shown_problems(first, values)
                self.assertEqual(sorted(set(problems)), sorted(problems_at(first, *parts)))
                met |= {kind for _, kind in problems}
                for by in ("view", "cells"):
                    self.assertIs(shows_difference(first, second, by, values), bool(differences_at(first, second, *parts, by)))
                end, table = ends_at(first, *parts), dict(values)
                broken = end is not None and holds(condition, table) and not holds(condition, dict(end[0]))
                self.assertIs(shows_breach(first, condition, values), broken)
                excess = False
                if end is not None:
                    before, after = [next(worth(own, state) for one, own in potential if holds(one, state))
                                     for state in (table, dict(end[0]))]
                    excess = 2 * (end[1] + after - before) > 3 * worth(form, table)
                self.assertIs(shows_excess(first, potential, form, (3, 2), values), excess)
        self.assertLessEqual({"range", "amount", "invariant", "view", "promise", "length", "cell", "result"}, met)

    def test_great_values(self):
        # Nobody could run these cell by cell.
        half = GREAT // 2
        values = (("cap", GREAT), ("head", half), ("k", half + 1), ("len", GREAT - 7))
        self.assertEqual(shown_problems(ring_pop(), values), [])
        wrong = Operation.read(ring_pop().container, str(ring_pop()).replace("view[0 .. k]", "view[0 .. k] reversed"))
        self.assertEqual(shown_problems(wrong, values), [(7, "result")])
        late = Operation.read(ring_push().container, str(ring_push()).replace("given[cap - head - len]", "given[0]"))
        pushed = (("cap", GREAT), ("head", half), ("k", half), ("len", half - 3))
        self.assertEqual(shown_problems(late, pushed), [(7, "cell")])
        self.assertTrue(shows_difference(late, ring_push(), "view", pushed))
        self.assertFalse(shows_difference(ring_push(), ring_push(), "cells", pushed))
        drop = (("cap", GREAT), ("k", half), ("len", GREAT))
        self.assertTrue(shows_excess(stack_drop(), ((All(), Form()),), Form(len=1), (GREAT - 1, GREAT), drop))
        self.assertFalse(shows_excess(stack_drop(), ((All(), Form()),), Form(len=1), (1, 1), drop))
        self.assertTrue(shows_breach(stack_drop(), read_condition("len = cap"), drop))

    def test_calls_that_are_not_allowed(self):
        for values in ((("cap", 1), ("k", 2), ("len", 1)), (("cap", 0), ("k", 0), ("len", 1))):
            self.assertEqual(shown_problems(stack_drop(), values), [])
            self.assertFalse(shows_difference(stack_drop(), stack_drop(), "view", values))
        stops = made(ROW, "reverse x[0] (2*n)", premise="k < n")
        for values, expected in [((("k", 0), ("n", 1)), True), ((("k", 1), ("n", 1)), False)]:
            self.assertIs(shows_difference(stops, stops, "cells", values), expected)
            self.assertFalse(shows_breach(stops, All(), values))
            self.assertFalse(shows_excess(stops, ((All(), Form()),), Form(), (0, 1), values))


if __name__ == "__main__":
    unittest.main()
