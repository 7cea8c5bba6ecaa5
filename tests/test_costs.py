import random
import unittest
from fractions import Fraction

from blockmoves.catalog import ring_pop, ring_push, ring_turn, stack, stack_drop, stack_push
from blockmoves.certificates import certify_bound
from blockmoves.conditions import All, read_condition
from blockmoves.costs import worst, worst_beside
from blockmoves.errors import InvalidCount, InvalidPotential, NotAForm, NotAnOperation, NotComparable
from blockmoves.forms import Form
from makers import MARKED, ROW, made, random_condition, varied
from samples import STRANGE, raised
from simulator import ends_at, holds, random_container, random_operation, small_values, split_values, worth

K, LEN, CAP, ZERO, N = Form(k=1), Form(len=1), Form(cap=1), Form(), Form(n=1)
PLAIN = ((All(), ZERO),)


def spread_at(operation, potential, form, values):
    """The spread cost of the call with these values and the value of the form; None if it is not allowed or stops."""
    fields, sizes = split_values(operation, values)
    end = ends_at(operation, fields, sizes)
    if end is None:
        return None

    def level(state):
        return next(worth(own, dict(state)) for condition, own in potential if holds(condition, dict(state)))

    return end[1] + level(end[0]) - level(fields), worth(form, dict(values))


def costs_at(first, second, values):
    """The costs of both calls; None if one is not allowed or stops."""
    fields, sizes = split_values(first, values)
    ends = [ends_at(operation, fields, sizes) for operation in (first, second)]
    return None if None in ends else tuple(cost for _, cost in ends)


class Ratios(unittest.TestCase):
    def check(self, found, near, symbols, ratio_at, top=4):
        """What is told, against the ratios of all small values; `ratio_at(values)` has both numbers of a ratio."""
        ratios = [pair for values in small_values(symbols, top) for pair in [ratio_at(values)] if pair is not None]
        if found is None:
            return None
        (over, under), reached, values = found
        fraction = Fraction(over, under)
        self.assertEqual((fraction.numerator, fraction.denominator), (over, under))
        self.assertTrue(type(over) is int and type(under) is int and over >= 0 and under >= 1)
        self.assertIn(reached, (True, False))
        for cost, size in ratios:
            self.assertLessEqual(cost, fraction * size)
            if size > 0:
                self.assertTrue(reached or cost < fraction * size)
                self.assertTrue(values is not None or Fraction(cost, size) <= fraction - Fraction(1, near))
        if values is None:
            self.assertFalse(reached)
            return fraction, reached
        self.assertEqual(tuple(symbol for symbol, _ in values), symbols)
        if all(number < 3000 for _, number in values):
            cost, size = ratio_at(values)
            self.assertGreater(size, 0)
            if reached:
                self.assertEqual(cost, fraction * size)
            else:
                self.assertGreater(Fraction(cost, size), fraction - Fraction(1, near))
        return fraction, reached


class WorstTest(Ratios):
    def worst(self, operation, form, potential=None, near=100, top=4):
        found = worst(operation, form, potential=potential, near=near)
        return self.check(found, near, operation.unknowns,
                          lambda values: spread_at(operation, potential or PLAIN, form, values), top)

    def test_example(self):
        potential = ((read_condition("cap <= 2*len"), Form(len=4, cap=-2)), (All(), ZERO))
        self.assertEqual(
            [worst(stack_push(), K), worst(stack_push(), K, potential=potential)[:2], worst(stack_push(), K + LEN)[:2]],
            [None, ((5, 1), True), ((3, 1), True)])

    def test_forms(self):
        for operation, form, expected in [
            (ring_push(), K, (1, True)), (ring_push(), K * 2, (Fraction(1, 2), True)), (ring_push(), K + LEN, (1, True)),
            (ring_push(), CAP, (1, True)), (ring_push(), CAP * 7, (Fraction(1, 7), True)), (ring_push(), LEN, None),
            (ring_push(), ZERO, None), (ring_pop(), K, (1, True)), (ring_turn(), LEN, (2, True)), (ring_turn(), K, None),
            (ring_turn(), K + LEN, (2, True)), (stack_drop(), LEN, (1, True)), (stack_drop(), K, None),
            (stack_drop(), CAP * 3 + LEN, (Fraction(1, 4), True)), (stack_push(), CAP, None), (stack_push(), K + CAP, (3, True)),
        ]:
            self.assertEqual(self.worst(operation, form), expected, (str(operation), str(form)))

    def test_reached_or_not(self):
        for lines, premise, form, expected in [
            (["fill x[0] (n) 1"], "all()", N, (1, True)), (["fill x[0] (n) 1"], "0 < n", N, (1, True)),
            (["fill x[0] (k) 1"], "k < n", N, (1, False)), (["fill x[0] (k) 1"], "2*k < n", N, (Fraction(1, 2), False)),
            (["fill x[0] (k) 1"], "all(k < n, n < 2*k)", K, (1, True)), (["fill x[0] (n) 1"], "n < 2*k", K, (2, False)),
            (["fill x[0] (n) 1"], "all(n < 3*k, k < n)", K, (3, False)), (["fill x[0] (n) 1"], "n < k", K + N, (Fraction(1, 2), False)),
            (["swap x[0] x[k] (k)"], "2*k <= n", N, (1, True)), (["swap x[0] x[k] (k)"], "2*k < n", N, (1, False)),
            (["resize x (3*n)", "resize x (k)"], "k < 2*n", N, (5, False)), ([], "all()", N, (0, True)), ([], "all()", ZERO, (0, False)),
            ([], "n = 0", N, (0, False)), ([], "any()", N, (0, False)), (["fill x[0] (n) 1"], "n = 0", N, (0, False)),
            (["fill x[0] (n) 1"], "n = 0", ZERO, (0, False)), (["fill x[0] (n) 1"], "all()", ZERO, None),
            (["fill x[0] (n) 1", "fill x[n] (n) 1"], "0 < n", ZERO, (0, False)), (["fill x[0] (n) 1"], "0 < n", K, None),
            (["fill x[0] (n) 1"], "n <= 5*k", K, (5, True)), (["fill x[0] (k) 1"], "all()", K, (1, True)),
            (["if k < n", "  fill x[0] (n) 1", "else", "  fill x[0] (n) 2", "  fill x[0] (n) 1", "end"], "all()", N, (2, True)),
            (["if n <= k", "  fill x[0] (n) 1", "else", "  fill x[0] (k) 2", "  fill x[0] (k) 1", "end"], "all()", N, (2, False)),
        ]:
            operation = made(ROW, *lines, premise=premise)
            for near in (1, 100, 1000):
                self.assertEqual(self.worst(operation, form, near=near, top=6), expected, (lines, premise, str(form)))

    def test_no_ratio_near(self):
        # The fraction is 0, and all ratios are far below it.
        high = ((All(), Form(f=5)),)
        down = made(MARKED, "let f = 0", head="", premise="0 < f", view=["view[0 .. n]"])
        for near in (1, 100, 10 ** 12):
            self.assertEqual(worst(down, Form(f=1), potential=high, near=near), ((0, 1), False, None))
        self.assertEqual(self.worst(down, Form(f=1), high), (0, False))
        # The ratios lie between -5 and 0, and come as near to 0 as is asked.
        for near in (1, 2, 100, 10 ** 9):
            fraction, reached, values = worst(down, N, potential=high, near=near)
            self.assertEqual((fraction, reached), ((0, 1), False))
            table = dict(values)
            self.assertGreater(table["n"], 5 * near * table["f"])
            self.assertGreater(table["f"], 0)
        # The ratio is -1 at most: not greater than 0 - 1 / 1.
        self.assertIsNone(worst(down, Form(f=1), potential=((All(), Form(f=1)),), near=1)[2])
        self.assertIsNotNone(worst(down, Form(f=2), potential=((All(), Form(f=1)),), near=1)[2])
        self.assertIsNone(worst(down, Form(f=2), potential=((All(), Form(f=1)),), near=2)[2])

    def test_near(self):
        operation = made(ROW, "fill x[0] (k) 1", premise="k < n")
        for near in (1, 2, 3, 10 ** 9, 10 ** 9 + 7, 10 ** 25):
            fraction, reached, values = worst(operation, N, near=near)
            self.assertEqual((fraction, reached), ((1, 1), False))
            table = dict(values)
            self.assertLess(table["k"], table["n"])
            self.assertGreater(Fraction(table["k"], table["n"]), 1 - Fraction(1, near))
        self.assertEqual(worst(operation, N), worst(operation, N, potential=None, near=100))
        self.assertEqual(worst(operation, N), worst(near=100, potential=PLAIN, form=N, operation=operation))

    def test_potentials(self):
        three = ((read_condition("len = 0"), CAP), (read_condition("cap = len"), LEN * -1), (All(), LEN * 3))
        half = ((read_condition("cap <= 2*len"), LEN * 4 - CAP * 2), (All(), ZERO))
        for operation, form, potential, expected in [
            (stack_push(), K, half, (5, True)), (stack_push(), K, ((All(), LEN * 2),), None), (stack_push(), K + LEN, three, (6, True)),
            (ring_push(), K, ((All(), LEN),), (2, True)), (ring_pop(), K, ((All(), LEN),), (0, True)), (ring_pop(), K, ((All(), LEN * 2),), None),
            (ring_pop(), K, ((All(), LEN * -1),), (2, True)), (stack_drop(), K, ((All(), LEN * 5),), None),
            (stack_drop(), LEN, three, None), (stack_drop(), LEN + CAP, three, None),
        ]:
            found = self.worst(operation, form, potential)
            if expected is not None or found is None:
                self.assertEqual(found, expected, (str(operation), str(form)))

    def test_long_numbers(self):
        operation = made(ROW, "fill x[0] (n) 1", premise="97*n < 89*k", head="size k")
        self.assertEqual(worst(operation, K * 83)[:2], ((89, 97 * 83), False))
        self.assertEqual(worst(made(ROW, "fill x[0] (n) 1", premise="97*n <= 89*k"), K * 83)[:2], ((89, 97 * 83), True))

    def test_random_operations(self):
        chance = random.Random(51)
        met = set()
        for _ in range(200):
            operation = random_operation(chance, random_container(chance))
            fields = operation.container.fields
            form = Form(**{symbol: chance.choice([0, 1, 2]) for symbol in operation.unknowns})
            potential = None
            if chance.random() < 0.5:
                forms = [Form(**{field: chance.choice([0, 1, 2, -1]) for field in fields}) for _ in range(3)]
                potential = ((random_condition(chance, fields), forms[0]), (random_condition(chance, fields), forms[1]),
                             (All(), forms[2]))[chance.randint(0, 2):]
            found = self.worst(operation, form, potential, chance.choice([1, 2, 7, 100]), 3)
            met.add(None if found is None else (found[0] > 0, found[1]))
            for fraction, general in [((10 ** 6, 1), "at most")] if found is None else self.around(found[0]):
                claim, certificate = certify_bound(operation, potential, form, fraction)
                self.assertEqual(claim[0], "more than" if found is None else general)
                if claim[0] == "more than" and all(number < 3000 for _, number in certificate):
                    cost, size = spread_at(operation, potential or PLAIN, form, certificate)
                    self.assertGreater(cost * fraction[1], size * fraction[0])
        self.assertEqual(met, {None, (False, False), (False, True), (True, True), (True, False)})

    def around(self, fraction):
        """The fraction, which bounds, and a lesser one, which does not."""
        over, under = fraction.numerator, fraction.denominator
        return [((over, under), "at most")] + ([((over * 1000 - 1, under * 1000), "more than")] if over else [])


class BesideTest(Ratios):
    def beside(self, first, second, near=100, top=4):
        found = worst_beside(first, second, near=near)
        return self.check(found, near, first.unknowns, lambda values: costs_at(first, second, values), top)

    def test_bodies(self):
        fill, half = ["fill x[0] (n) 1"], ["fill x[0] (k) 1"]
        for first, second, premises, expected in [
            (fill, fill, ("all()", "all()"), (1, True)), (fill, [], ("all()", "all()"), None), ([], fill, ("all()", "all()"), (0, True)),
            ([], [], ("all()", "all()"), (0, False)), (fill + fill, fill, ("all()", "all()"), (2, True)),
            (fill, ["swap x[0] x[k] (k)"], ("all()", "2*k = n"), (1, True)), (fill, ["swap x[0] x[k] (k)"], ("all()", "2*k <= n"), None),
            (half, fill, ("k < n", "all()"), (1, False)), (half, fill, ("all()", "k < n"), (1, False)), (half, fill, ("all()", "all()"), (1, True)),
            (fill, half, ("all()", "n < 3*k"), (3, False)), (fill, half, ("all()", "n <= 3*k"), (3, True)), (fill, half, ("all()", "all()"), None),
            # No call is allowed for both, or none of both ends.
            (fill, half, ("k < n", "n < k"), (0, False)), (fill, ["fill x[n] (n) 1"], ("0 < n", "all()"), (0, False)),
            # The second one costs nothing where the first one does not either.
            (fill, fill, ("n = 0", "all()"), (0, False)), (["resize x (2*k)"], half, ("all()", "k <= n"), (2, True)),
        ]:
            one, other = made(ROW, *first, premise=premises[0]), made(ROW, *second, premise=premises[1])
            for near in (1, 30, 1000):
                self.assertEqual(self.beside(one, other, near, 6), expected, (first, second, premises))

    def test_catalog(self):
        self.assertEqual(self.beside(stack_push(), stack_push(), top=3), (1, True))
        twice = made(stack(), "if cap < k + len", "  resize buf (k + len)", "end", "copy buf[len] given[0] (k)", "let len = k + len",
                     head="size k\ninput given k", view=["view[0 .. len]", "given[0 .. k]"])
        self.assertEqual(self.beside(stack_push(), twice), (2, False))
        self.assertEqual(self.beside(twice, stack_push()), (1, True))
        self.assertEqual(worst_beside(second=twice, first=stack_push(), near=7), worst_beside(stack_push(), twice, near=7))
        self.assertEqual(worst_beside(stack_push(), twice), worst_beside(stack_push(), twice, near=100))
        self.assertNotEqual(worst_beside(stack_push(), twice), worst_beside(stack_push(), twice, near=101))
        fraction, reached, values = worst_beside(made(ROW, "fill x[0] (k) 1", premise="k < n"), made(ROW, "fill x[0] (n) 1"),
                                                 near=10 ** 9)
        self.assertEqual((fraction, reached), ((1, 1), False))
        self.assertGreater(dict(values)["k"] * 10 ** 9, dict(values)["n"] * (10 ** 9 - 1))

    def test_random_pairs(self):
        chance = random.Random(52)
        met = set()
        for _ in range(300):
            first = random_operation(chance, random_container(chance))
            second = varied(chance, first)
            if second is not None:
                found = self.beside(first, second, chance.choice([1, 2, 7, 100]), 3)
                met.add(None if found is None else (found[0] > 0, found[1]))
        self.assertLessEqual({None, (False, False), (False, True), (True, True)}, met)


class WrongArgumentsTest(unittest.TestCase):
    def test_no_operation(self):
        for value in STRANGE + [True, 1, str(stack_drop()), stack(), (stack_drop(),)]:
            self.assertIs(raised(NotAnOperation, worst, value, None, potential=0, near=0).value, value)
            self.assertIs(raised(NotAnOperation, worst_beside, value, None, near=0).value, value)
            self.assertIs(raised(NotAnOperation, worst_beside, ring_push(), value, near=0).value, value)

    def test_no_form(self):
        for value in STRANGE + [True, 1, "k", (), All(), Form(k=-1), Form(k=2, len=-1), Form(n=1), Form.read("@"), Form(buf=1)]:
            self.assertIs(raised(NotAForm, worst, stack_push(), value, potential=0, near=0).value, value)

    def test_no_potential(self):
        last = (All(), ZERO)
        for value in STRANGE[1:] + [True, 1, (), last, ((All(), ZERO), (read_condition("len = 0"), ZERO)), (last,) * 4, [last],
                                    ((All(), K),), ((All(All()), ZERO),), ((read_condition("k = 0"), ZERO), last), ((All(), 0),)]:
            self.assertIs(raised(InvalidPotential, worst, stack_push(), K, potential=value, near=0).value, value)

    def test_no_count(self):
        for value in STRANGE + [True, False, 0, -1, "1", (1,), -10 ** 20]:
            self.assertIs(raised(InvalidCount, worst, stack_push(), K, near=value).value, value)
            self.assertIs(raised(InvalidCount, worst_beside, stack_push(), stack_push(), near=value).value, value)
        for call in (lambda: worst(stack_push(), K, None), lambda: worst_beside(stack_push(), stack_push(), 5)):
            with self.assertRaises(TypeError):
                call()

    def test_not_comparable(self):
        for other in (ring_push(), ring_pop(), stack_drop(), made(stack(), head="size k")):
            self.assertIs(type(raised(NotComparable, worst_beside, stack_push(), other, near=0)), NotComparable)


if __name__ == "__main__":
    unittest.main()
