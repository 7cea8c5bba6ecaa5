import itertools
import random
import unittest

from blockmoves.catalog import ring, ring_pop, ring_push, ring_turn, stack, stack_drop, stack_push
from blockmoves.conditions import All, Any, Below, Not, Upto, read_condition
from blockmoves.containers import Container
from blockmoves.errors import InvalidConditions, InvalidOperations, NotACondition, NotAContainer, NotAnOperation, TooMany
from blockmoves.forms import Form
from blockmoves.judging import is_right, reached
from blockmoves.keeping import find_broken, is_kept, kept_part, least_premises
from blockmoves.operations import Operation
from blockmoves.statements import If
from makers import MARKED, is_small, made, random_condition
from samples import STRANGE, raised
from simulator import ends_at, holds, random_container, random_operation, small_values, split_values, worth


def read(*texts):
    return tuple(read_condition(text) for text in texts)


def breaks(operation, condition, values):
    """Whether the call with these values is allowed and does not keep the condition."""
    end = ends_at(operation, *split_values(operation, values))
    return end is not None and holds(condition, dict(values)) and not holds(condition, dict(end[0]))


class KeptTest(unittest.TestCase):
    def check(self, operation, condition, top=4):
        values = find_broken(operation, condition)
        self.assertIs(is_kept(operation, condition), values is None)
        if values is not None:
            self.assertEqual(tuple(symbol for symbol, _ in values), operation.unknowns)
            self.assertTrue(not is_small(values) or breaks(operation, condition, values), (str(operation), str(condition), values))
            return False
        for values in small_values(operation.unknowns, top):
            self.assertFalse(breaks(operation, condition, values), (str(operation), str(condition), values))
        return True

    def test_example(self):
        some = read("head < cap", "head = 0", "0 <= cap")
        free = Operation.read(stack(), "operation free\nsize k\npremise all()\nbody\n  let len = -k + len\nview\n  view[0 .. -k + len]")
        wishes = read("k <= len", "k = 0", "len < k")
        self.assertEqual(
            [is_kept(ring_push(), some[1]), is_kept(ring_pop(), some[1]), kept_part(ring(), (ring_push(), ring_pop()), some),
             least_premises(free, wishes)],
            [True, False, (2,), ((0,), (1,))])

    def test_conditions(self):
        for operation, text, kept in [
            (ring_push(), "head < cap", True), (ring_push(), "len = 0", False), (ring_push(), "not(len = 0)", True),
            (ring_pop(), "head < cap", False), (ring_pop(), "head <= cap", True), (ring_pop(), "len < cap", True),
            (ring_pop(), "not(len = 0)", False), (ring_pop(), "any()", True), (ring_pop(), "all()", True),
            (ring_turn(), "any(head = 0, len < cap)", True), (stack_push(), "cap = len", False), (stack_push(), "cap <= 2*len", True),
            (stack_push(), "any(cap = 0, not(cap = 0))", True), (stack_drop(), "cap <= 2*len", False),
            (stack_drop(), "2*len <= cap", True), (stack_push(), "all(cap = 0, 0 < len)", True), (ring_push(), "2*len < cap", False),
        ]:
            self.assertIs(self.check(operation, *read(text)), kept, text)

    def test_calls_that_stop(self):
        # Only calls that end count, and only those that are allowed.
        condition, = read("f = 0")
        for lines, premise, kept in [
            (["let f = k"], "all()", False), (["let f = k", "reverse x[0] (2*n)"], "0 < n", True), (["let f = k"], "k = 0", True),
            (["let f = k", "reverse x[0] (2*n)"], "all()", False), (["reverse x[0] (k)", "let f = k"], "n < k", True),
            (["let f = k"], "0 < f", True), (["let f = k", "let f = 0"], "all()", True), (["let f = -k"], "0 < k", True),
        ]:
            self.assertIs(self.check(made(MARKED, *lines, premise=premise), condition), kept, (lines, premise))

    def test_random_operations(self):
        chance = random.Random(41)
        found = {True: 0, False: 0}
        for _ in range(250):
            operation = random_operation(chance, random_container(chance))
            found[self.check(operation, random_condition(chance, operation.container.fields), 3)] += 1
        self.assertGreater(min(found.values()), 8)

    def test_equal_calls(self):
        condition, = read("2*len <= cap")
        self.assertEqual(find_broken(ring_push(), condition), find_broken(condition=condition, operation=ring_push()))
        self.assertIs(is_kept(condition=condition, operation=stack_drop()), True)


class KeptPartTest(unittest.TestCase):
    def test_one_after_another(self):
        # f goes to g, g goes to h: so each condition is lost by the loss of the one before.
        container = Container.read(str(MARKED).replace("field g\n", "field g\nfield h\n").replace(
            "begin n = n", "begin h = 0\nbegin n = n").replace("all(f <= n, g <= n)", "all()"))
        step = made(container, "let f = g", "let g = h", head="", view=["view[0 .. n]"])
        last = made(container, "let h = k")
        some = read("f = 0", "g = 0", "h = 0", "0 <= h")
        self.assertEqual(kept_part(container, (step,), some), (0, 1, 2, 3))
        self.assertEqual(kept_part(container, (step, last), some), (3,))
        self.assertEqual(kept_part(container, (last,), some), (0, 1, 3))
        self.assertEqual(kept_part(container, (step, last), some[:2]), ())
        self.assertEqual(kept_part(container, (step,), some[:2]), ())
        self.assertEqual(kept_part(container, (step,), some[1:3]), (0, 1))
        self.assertEqual(kept_part(container, (), some), (0, 1, 2, 3))
        self.assertEqual(kept_part(container, (step, last), ()), ())
        self.assertEqual(kept_part(container=container, operations=(step, last), conditions=some + some), (3, 7))

    def test_starts(self):
        # Each condition has to hold at every allowed start.
        some = read("len = 0", "cap = 0", "len <= cap", "0 < cap", "any()")
        self.assertEqual(kept_part(stack(), (), some), (0, 2))
        for premise, expected in [("n = 0", (0, 1, 2)), ("0 < n", (0, 2, 3)), ("any()", (0, 1, 2, 3, 4))]:
            container = Container.read(str(stack()).replace("premise all()", f"premise {premise}"))
            self.assertEqual(kept_part(container, (), some), expected)
        # A start that would give a field a value below 0 is not allowed.
        below = Container.read(str(stack()).replace("begin len = 0", "begin len = -n"))
        self.assertEqual(kept_part(below, (), some), (0, 1, 2))

    def test_helped_by_others(self):
        container = Container.read(str(MARKED).replace("all(f <= n, g <= n)", "all()"))
        jump = made(container, "if f < g", "  let g = k", "  let f = k", "end")
        some = read("f = 0", "f = g", "g <= f")
        self.assertEqual(kept_part(container, (jump,), some), (0, 1, 2))
        self.assertEqual(kept_part(container, (jump,), some[:1]), ())
        self.assertEqual(kept_part(container, (jump,), some[1:]), (0, 1))

    def test_more_parts_than_a_condition_has(self):
        atoms = ["len <= cap", "head <= cap", "0 <= head", "0 <= len", "0 <= cap", "len <= 2*cap", "head <= 3*cap",
                 "len <= cap + head", "head <= cap + len", "0 <= cap - len", "0 <= cap - head"]
        full = [read_condition(f"all({', '.join(atoms)})")] * 7
        self.assertEqual([one.parts for one in full], [12] * 7)
        with self.assertRaises(TooMany):
            All(*full)
        operations = (ring_push(), ring_pop(), ring_turn())
        self.assertEqual(kept_part(ring(), operations, tuple(full) + read("len = 0")), tuple(range(7)))
        # Very many ways together, of which few can be gone.
        some = [Any(*[Upto(Form(head=a, len=at), Form(cap=b + at)) for at in range(11)]) for a in (1, 2) for b in (2, 3, 5, 7)]
        self.assertEqual(kept_part(ring(), operations, tuple(some)), tuple(range(8)))

    def greatest_in_small(self, container, operations, conditions):
        """What small values leave of the conditions: at least the greatest part."""
        kept = []
        for index, condition in enumerate(conditions):
            starts = []
            for number in range(6):
                begun = {field: worth(form, {"n": number}) for field, form in container.begin}
                if holds(container.premise, {"n": number}) and min(begun.values()) >= 0:
                    starts.append(holds(condition, begun))
            if all(starts):
                kept.append(index)
        calls = [(dict(values), end) for operation in operations for values in small_values(operation.unknowns, 4)
                 for end in [ends_at(operation, *split_values(operation, values))] if end is not None]
        while True:
            lost = [index for index in kept if any(
                all(holds(conditions[other], before) for other in kept) and not holds(conditions[index], dict(end[0]))
                for before, end in calls)]
            if not lost:
                return tuple(kept)
            kept.remove(lost[-1])

    def test_random_operations(self):
        chance = random.Random(42)
        same = 0
        for _ in range(60):
            container = random_container(chance)
            operations = tuple(random_operation(chance, container) for _ in range(chance.randint(0, 2)))
            conditions = tuple(random_condition(chance, container.fields) for _ in range(chance.randint(0, 5)))
            conditions += read("0 <= len", "len <= cap", "len = 0")
            found, small = kept_part(container, operations, conditions), self.greatest_in_small(container, operations, conditions)
            self.assertLessEqual(set(found), set(small))
            self.assertEqual(found, tuple(sorted(set(found))))
            same += found == small
        self.assertGreater(same, 55)


class LeastPremisesTest(unittest.TestCase):
    def again(self, operation, conditions):
        """By the operations with these premises."""
        good = []
        for many in range(len(conditions) + 1):
            for part in itertools.combinations(range(len(conditions)), many):
                premise = All(operation.premise, *[conditions[index] for index in part])
                parts = {"sizes": operation.sizes, "inputs": operation.inputs, "outputs": operation.outputs, "premise": premise}
                whole = Operation(operation.container, "some", body=operation.body, view=operation.view,
                                  results=operation.results, **parts)
                empty = Operation(operation.container, "some", body=(If(All(), ()),), results=((),) * len(operation.outputs), **parts)
                if is_right(whole) and reached(empty) == (0,) and not any(set(one) <= set(part) for one in good):
                    good.append(part)
        return tuple(sorted(good))

    def test_parts(self):
        for text, wishes, expected in [
            (str(stack_drop()), (), ((),)), (str(stack_drop()), ("any()",), ((),)), (str(stack_drop()), ("k = 0", "len < k"), ((),)),
            (str(stack_drop()).replace("k <= len", "all()"), ("k <= cap",), ()),
            (str(stack_drop()).replace("k <= len", "all()"), ("k <= cap", "cap = len"), ((0, 1),)),
            (str(stack_drop()).replace("k <= len", "all()"), ("k <= cap", "cap = len", "k = 0", "len < k", "k <= len"),
             ((0, 1), (2,), (4,))),
            (str(stack_drop()).replace("k <= len", "any()"), ("k <= cap", "all()"), ()),
            (str(stack_drop()).replace("k <= len", "all()"), ("len < k", "any()"), ()),
            (str(stack_drop()).replace("k <= len", "all()"), ("k <= len", "k <= len"), ((0,), (1,))),
            (str(stack_drop()).replace("up", "down"), ("len = k", "2*k = len", "k = 0", "3*k = len"), ((0,), (1,), (2,))),
        ]:
            operation, conditions = Operation.read(stack(), text), read(*wishes)
            self.assertEqual(least_premises(operation, conditions), expected, (text, wishes))
            self.assertEqual(self.again(operation, conditions), expected)

    def test_more_parts_than_a_condition_has(self):
        free = made(stack(), "let len = -k + len", view=["view[0 .. -k + len]"])
        wide = [Any(*[Below(Form(k=1, cap=at), Form(len=1)) for at in range(11)]), All(*[Upto(Form(k=at), Form(len=at)) for at in range(11)])]
        some = (wide[0], Not(Below(Form(k=1), Form(len=1))), wide[1], wide[1], read_condition("len < k"))
        self.assertEqual(least_premises(operation=free, conditions=some), ((0,), (2,), (3,)))
        # Too many parts together for a condition, and all are needed.
        both = made(stack(), "copy buf[0] buf[k] (cap - k)", "copy buf[0] buf[m] (cap - m)", "let len = 0", head="size k\nsize m")
        full = tuple(All(*[Upto(Form(**{name: at}), Form(cap=at)) for at in range(11)]) for name in ("k", "m"))
        self.assertEqual(least_premises(both, full), ((0, 1),))
        with self.assertRaises(TooMany):
            All(*full)

    def test_random_operations(self):
        chance = random.Random(43)
        found = set()
        for _ in range(120):
            operation = random_operation(chance, random_container(chance))
            conditions = tuple(random_condition(chance, operation.unknowns) for _ in range(chance.randint(0, 4)))
            if sum(one.parts for one in conditions) + operation.premise.parts < 12:
                parts = least_premises(operation, conditions)
                self.assertEqual(parts, self.again(operation, conditions))
                found |= {len(part) for part in parts}
        self.assertLessEqual({0, 1, 2}, found)


class WrongArgumentsTest(unittest.TestCase):
    def test_no_operation(self):
        for value in STRANGE + [True, 1, str(stack_drop()), stack(), (), (stack_drop(),)]:
            for function in (is_kept, find_broken, least_premises):
                self.assertIs(raised(NotAnOperation, function, value, None).value, value)

    def test_no_condition(self):
        for value in STRANGE + [True, 1, "all()", Form(), (), (All(),), Below(Form(k=1), Form(len=1)), Upto(Form.read("@"), Form(len=1)),
                                Below(Form(n=1), Form(cap=1))]:
            for function in (is_kept, find_broken):
                self.assertIs(raised(NotACondition, function, stack_drop(), value).value, value)

    def test_no_container(self):
        for value in STRANGE + [True, 1, str(stack()), stack_drop(), ()]:
            self.assertIs(raised(NotAContainer, kept_part, value, None, None).value, value)

    def test_no_operations(self):
        self.assertIsNone(raised(InvalidOperations, kept_part, stack(), stack_drop(), None).index)
        for value in STRANGE + [True, 1, str(stack_drop()), [stack_drop()]]:
            self.assertIsNone(raised(InvalidOperations, kept_part, stack(), value, None).index)
            self.assertEqual(raised(InvalidOperations, kept_part, stack(), (stack_drop(), value, None), None).index, 1)
        self.assertEqual(raised(InvalidOperations, kept_part, stack(), (ring_push(), None), None).index, 0)
        self.assertEqual(raised(InvalidOperations, kept_part, ring(), (ring_push(),) * 9 + (stack_push(),), None).index, 9)
        same = Container.read(str(stack()))
        self.assertEqual(kept_part(same, (stack_drop(),) * 9, (All(),)), (0,))

    def test_no_conditions(self):
        good = Upto(Form(len=1), Form(cap=1))
        foreign = [Below(Form(n=1), Form()), Upto(Form.read("@"), Form()), Any(good, Below(Form(buf=1), Form()))]
        for value in STRANGE + [True, 1, [good], "all()"]:
            for call in (lambda some: kept_part(stack(), (), some), lambda some: least_premises(stack_drop(), some)):
                self.assertIsNone(raised(InvalidConditions, call, value).index)
                self.assertEqual(raised(InvalidConditions, call, (good, value)).index, 1)
                self.assertEqual(raised(InvalidConditions, call, (value, None)).index, 0)
        for value in foreign:
            for call in (lambda some: kept_part(stack(), (), some), lambda some: least_premises(stack_drop(), some)):
                self.assertEqual(raised(InvalidConditions, call, (good, good, value)).index, 2)
        sized = Below(Form(k=1), Form(len=1))
        self.assertEqual(raised(InvalidConditions, kept_part, stack(), (), (good, sized)).index, 1)
        self.assertEqual(least_premises(stack_drop(), (good, sized)), ((),))
        self.assertEqual(kept_part(stack(), (), (good,) * 8), tuple(range(8)))
        self.assertIsNone(raised(InvalidConditions, kept_part, stack(), (), (good,) * 9).index)
        self.assertIsNone(raised(InvalidConditions, kept_part, stack(), (), (None,) * 9).index)
        self.assertEqual(least_premises(stack_drop(), (good,) * 5), ((),))
        self.assertIsNone(raised(InvalidConditions, least_premises, stack_drop(), (good,) * 6).index)
        self.assertEqual(raised(InvalidConditions, least_premises, stack_drop(), (None,) * 5).index, 0)


if __name__ == "__main__":
    unittest.main()
