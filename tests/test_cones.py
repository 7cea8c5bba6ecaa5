import random
import unittest
from itertools import product

from blockmoves.cones import find_values, refute, refutes
from blockmoves.errors import InvalidFacts
from blockmoves.forms import Form
from samples import GREAT, STRANGE, Liar, raised

A, B, C = Form(a=1), Form(b=1), Form(c=1)
ZERO = Form()
NINE = [Form(**{symbol: 1}) for symbol in "abcdefghi"]


def plain_value(form, table):
    return sum(form.factor(symbol) * worth for symbol, worth in table.items())


def hold(facts, values):
    """Whether all facts hold, by plain sums."""
    table = dict(values)
    return all(plain_value(form, table) > 0 if strict else plain_value(form, table) >= 0 for form, strict in facts)


def is_refutation(facts, multipliers):
    """Point 9, by plain sums."""
    if len(multipliers) != len(facts) or any(many < 0 for many in multipliers):
        return False
    if not any(strict and many for (_, strict), many in zip(facts, multipliers)):
        return False
    symbols = {symbol for form, _ in facts for symbol in form.symbols}
    return all(sum(form.factor(symbol) * many for (form, _), many in zip(facts, multipliers)) <= 0 for symbol in symbols)


class AnswersTest(unittest.TestCase):
    def check(self, facts):
        """Exactly one of both is there, and it is right; returns whether there are values."""
        values, multipliers = find_values(facts), refute(facts)
        self.assertEqual((find_values(facts), refute(facts)), (values, multipliers))
        self.assertTrue((values is None) != (multipliers is None), facts)
        if values is None:
            self.assertIs(type(multipliers), tuple)
            self.assertTrue(all(type(many) is int for many in multipliers))
            self.assertTrue(is_refutation(facts, multipliers), facts)
            self.assertIs(refutes(facts, multipliers), True)
            return False
        self.assertIs(type(values), tuple)
        symbols = sorted({symbol for form, _ in facts for symbol in form.symbols})
        self.assertEqual([symbol for symbol, _ in values], symbols)
        self.assertTrue(all(type(worth) is int and worth >= 0 for _, worth in values))
        self.assertTrue(hold(facts, values), facts)
        return True

    def test_example(self):
        facts = ((A - B, True), (B * 2 - A, False), (B - A, False))
        self.assertEqual(
            [find_values(facts), refutes(facts, (1, 0, 1)), refutes(facts, (0, 0, 0)), refutes(facts, refute(facts)),
             refute(facts[:2]), find_values(()), find_values(((A - A, True),))],
            [None, True, False, True, None, (), None])

    def test_few_facts(self):
        for facts, expected in [
            ((), True), (((ZERO, False),), True), (((ZERO, True),), False), (((A, True),), True), (((-A, True),), False),
            (((-A, False),), True), (((A, True), (-A, False)), False), (((A, False), (-A, False)), True),
            (((A - B, True), (B - A, True)), False), (((A - B, False), (B - A, False), (A, True)), True),
            (((A - B * 2, True), (B * 3 - A, True)), True), (((A * 2 - B, True), (B - A * 3, True)), False),
            (((A - B, True), (B - C, True), (C - A, False)), False), (((A - B, True),) * 5, True),
            (((ZERO, False), (A, True), (ZERO, True)), False), (((A * 7, True), (A * -3, False)), False),
            (((A + B, True), (-A, False)), True), (((A + B, True), (-A, False), (-B, False)), False),
            (((Form.read("@") - A, True), (B - Form.read("@"), True)), True),
            (((Form.read("self") - A, True), (A - Form.read("self"), False)), False),
            (((A * GREAT - B, True), (B - A * (GREAT - 1), True)), True),
            (((A * GREAT - B, True), (B - A * GREAT, True)), False),
            (((A * GREAT - B, False), (B - A * GREAT, False), (B, True)), True),
        ]:
            self.assertIs(self.check(facts), expected, facts)

    def test_all_small_facts(self):
        forms = [Form(a=x, b=y) for x, y in product((-2, -1, 0, 1), repeat=2)]
        facts = [(form, strict) for form in forms for strict in (False, True)]
        table = [(("a", a), ("b", b)) for a in range(7) for b in range(7)]
        for first, second, third in product(facts, facts, facts[::3]):
            chosen = (first, second, third)
            self.assertIs(self.check(chosen), any(hold(chosen, values) for values in table), chosen)

    def test_facts_around_values(self):
        chance = random.Random(5)
        for _ in range(250):
            symbols = "abcdefgh"[:chance.randint(1, 8)]
            hidden = tuple((symbol, chance.randint(0, 4)) for symbol in symbols)
            top = chance.choice([1, 3, 10, GREAT])
            facts = []
            for _ in range(chance.randint(1, 150)):
                form = Form(**{symbol: chance.randint(-top, top) for symbol in symbols if chance.random() < 0.7})
                worth = form.evaluate(hidden)
                facts.append((form if worth >= 0 else -form, worth != 0 and chance.random() < 0.7))
            self.assertTrue(self.check(tuple(facts)))

    def test_facts_against_a_sum(self):
        chance = random.Random(6)
        for _ in range(250):
            symbols = "abcdefgh"[:chance.randint(1, 8)]
            top = chance.choice([1, 3, 10, GREAT])
            forms = [Form(**{symbol: chance.randint(-top, top) for symbol in symbols})
                     for _ in range(chance.randint(1, 30))]
            total = Form()
            for form in forms:
                total = total + form * chance.randint(0, 3)
            last = -total - Form(**{chance.choice(symbols): chance.randint(0, 2)})
            facts = [(form, False) for form in forms] + [(last, True)]
            chance.shuffle(facts)
            self.assertFalse(self.check(tuple(facts)))

    def test_any_facts(self):
        chance = random.Random(7)
        found = {True: 0, False: 0}
        for _ in range(500):
            symbols = "abcdefgh"[:chance.randint(1, 8)]
            facts = [(Form(**{symbol: chance.randint(-2, 2) for symbol in symbols}), chance.random() < 0.5)
                     for _ in range(chance.randint(1, 14))]
            facts += [(form * chance.randint(-2, 3), strict) for form, strict in facts[:chance.randint(0, 2)]]
            found[self.check(tuple(facts))] += 1
        self.assertGreater(min(found.values()), 100)

    def test_a_cone_that_closes(self):
        # Each fact alone leaves room, all together none; the last one is what refutes.
        ring = tuple((NINE[at] - NINE[(at + 1) % 8], at == 7) for at in range(8))
        self.assertFalse(self.check(ring))
        self.assertTrue(self.check(ring[:-1] + ((NINE[0], True),)))

    def test_limits(self):
        for many in (149, 150):
            self.assertTrue(self.check(((A, True),) * many))
            self.assertFalse(self.check(((A, False),) * (many - 1) + ((-A, True),)))
        eight = tuple((form, True) for form in NINE[:8])
        self.assertTrue(self.check(eight))
        self.assertFalse(self.check(eight + ((-sum(NINE[1:8], NINE[0]), False),)))
        self.assertTrue(self.check(tuple((form, True) for form in NINE[:7]) + ((Form.read("@"), True),)))


class RefutesTest(unittest.TestCase):
    FACTS = ((A - B, True), (B - A, False))

    def test_truth(self):
        for multipliers in ((1, 1), (2, 2), (GREAT, GREAT)):
            self.assertIs(refutes(self.FACTS, multipliers), True)
        for multipliers in ((0, 0), (0, 1), (1, 0), (2, 1), (1, 2), (1,), (1, 1, 0), (), (-1, -1), (1, -1)):
            self.assertIs(refutes(self.FACTS, multipliers), False)
        self.assertIs(refutes((), ()), False)
        self.assertIs(refutes(((ZERO, True),), (1,)), True)
        self.assertIs(refutes(((ZERO, False),), (1,)), False)
        # A sum below 0 for every symbol is a refutation, too.
        self.assertIs(refutes(((-A - B, True),), (3,)), True)
        self.assertIs(refutes(((-A, True), (-B, False)), (1, 5)), True)
        # A negative multiplier is none, even where the sums would be right.
        self.assertIs(refutes(((-A, True), (A, False)), (1, -1)), False)

    def test_any_value(self):
        for value in STRANGE + [True, False, 0, 1, "11", [1, 1], (True, True), (1, True), (True, 1), (1, None), ("1", "1"),
                                (Liar(), Liar()), {0: 1, 1: 1}, ((1, 1),), {1}, self.FACTS]:
            self.assertIs(refutes(self.FACTS, value), False)

    def test_named(self):
        self.assertIs(refutes(facts=self.FACTS, multipliers=(1, 1)), True)
        self.assertIsNone(find_values(facts=self.FACTS))
        self.assertTrue(refutes(self.FACTS, refute(facts=self.FACTS)))


class WrongFactsTest(unittest.TestCase):
    def check(self, facts, index):
        for call in (find_values, refute, lambda value: refutes(value, ()), lambda value: refutes(value, None)):
            error = raised(InvalidFacts, call, facts)
            self.assertEqual(error.index, index)
            self.assertIs(type(error), InvalidFacts)

    def test_no_tuple(self):
        for value in STRANGE + [True, 1, "", "a", A, [], [(A, True)], {0: (A, True)}]:
            self.check(value, None)

    def test_no_fact(self):
        good = (A, True)
        for value in STRANGE + [True, 1, "", A, (), (A,), (A, True, True), (A, 1), (A, 0), (A, None), ("a", True), (None, True),
                                (1, True), [A, True], (A, "True"), (A, Liar()), (True, A), ((A, True),), (True, True)]:
            self.check((value,), 0)
            self.check((good, value), 1)
            self.check((good, good, value, value), 2)

    def test_too_many(self):
        self.check(((A, True),) * 151, None)
        self.check(((A, True),) * 1000, None)
        # The number is looked at first, then the elements, then the symbols.
        self.check((None,) * 151, None)
        nine = tuple((form, True) for form in NINE)
        self.check(nine, None)
        self.check((nine[0], (sum(NINE, Form()), False)), None)
        self.check(nine + (None,), 9)
        self.check((None,) + nine, 0)
        self.check(tuple((form, True) for form in NINE[:8]) + ((Form.read("@"), False),), None)
        # A symbol whose factor is 0 is none.
        self.assertIsNotNone(find_values(nine[:8] + ((NINE[8] - NINE[8], False),)))


if __name__ == "__main__":
    unittest.main()
