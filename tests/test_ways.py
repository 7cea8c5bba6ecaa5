import functools
import itertools
import random
import unittest

from blockmoves.conditions import All, Any, Below, Not, Same, Upto
from blockmoves.errors import InvalidTruth
from blockmoves.forms import Form
from samples import STRANGE, built, raised, random_plan

A, B, C = Form(a=1), Form(b=1), Form(c=1)
LESS = Below(A, B)


def texts(condition, truth):
    """The ways with `>` for a strict fact and `>=` for another one."""
    return [tuple(f"{form} {'>' if strict else '>='} 0" for form, strict in way) for way in condition.ways(truth)]


# A tree (truth, parts) is what a way takes: parts are the trees of the conditions that it comes to. The trees are
# found as point 8 says it, in any order, and then sorted as point 8 orders a listing.

def unfolded(plan):
    """The plan with `all` in the place of `=`."""
    word, *rest = plan
    if word == "=":
        first, second = rest
        return "all", ("<=", first, second), ("<=", second, first)
    return plan


def trees(plan, truth):
    word, *rest = unfolded(plan)
    if word in ("<", "<="):
        return [(truth, ())]
    if word == "not":
        return [(truth, (tree,)) for tree in trees(rest[0], not truth)]
    goes_on = word == "all"
    if truth == goes_on:
        return [(truth, parts) for parts in itertools.product(*[trees(inner, truth) for inner in rest])]
    return [
        (truth, parts)
        for last in range(len(rest))
        for parts in itertools.product(*[trees(inner, goes_on) for inner in rest[:last]], trees(rest[last], truth))
    ]


def facts(plan, tree):
    word, *rest = unfolded(plan)
    truth, parts = tree
    if word in ("<", "<="):
        first, second = rest
        return [(second - first if truth else first - second, (word == "<") == truth)]
    return [fact for inner, part in zip(rest, parts) for fact in facts(inner, part)]


def compared(one, other):
    if one[0] != other[0]:
        return -1 if one[0] else 1
    for part, against in zip(one[1], other[1]):
        if part != against:
            return compared(part, against)
    return 0


def wanted(plan, truth):
    found = sorted(trees(plan, truth), key=functools.cmp_to_key(compared))
    return [tuple(facts(plan, tree)) for tree in found]


class WaysTest(unittest.TestCase):
    def test_atoms(self):
        self.assertEqual(texts(Below(A, B), True), [("-a + b > 0",)])
        self.assertEqual(texts(Below(A, B), False), [("a - b >= 0",)])
        self.assertEqual(texts(Upto(A, B), True), [("-a + b >= 0",)])
        self.assertEqual(texts(Upto(A, B), False), [("a - b > 0",)])
        self.assertEqual(texts(Same(A, B), True), [("-a + b >= 0", "a - b >= 0")])
        self.assertEqual(texts(Same(A, B), False), [("-a + b >= 0", "-a + b > 0"), ("a - b > 0",)])

    def test_kinds_of_values(self):
        for condition in (Below(A, B), Upto(A, A), Same(A, B), Any(LESS, Not(Same(A, B))), All(), Any()):
            for truth in (True, False):
                for way in condition.ways(truth):
                    self.assertIs(way.__class__, tuple)
                    for fact in way:
                        self.assertIs(fact.__class__, tuple)
                        form, strict = fact
                        self.assertIs(form.__class__, Form)
                        self.assertIn(strict, (True, False))
                        self.assertIs(strict.__class__, bool)

    def test_without_conditions(self):
        self.assertEqual(list(All().ways(True)), [()])
        self.assertEqual(list(All().ways(False)), [])
        self.assertEqual(list(Any().ways(True)), [])
        self.assertEqual(list(Any().ways(False)), [()])
        self.assertEqual(list(Not(All()).ways(True)), [])
        self.assertEqual(list(Not(Any()).ways(True)), [()])
        self.assertEqual(texts(Any(LESS, All()), True), [("-a + b > 0",), ("a - b >= 0",)])
        self.assertEqual(texts(All(LESS, Any()), True), [])

    def test_not(self):
        for inner in (LESS, Upto(A, B), Same(A, B), All(LESS, Same(B, C)), Any(LESS, Same(B, C))):
            for truth in (True, False):
                self.assertEqual(list(Not(inner).ways(truth)), list(inner.ways(not truth)))

    def test_all(self):
        condition = All(Below(A, B), Below(B, C))
        self.assertEqual(texts(condition, True), [("-a + b > 0", "-b + c > 0")])
        self.assertEqual(texts(condition, False), [("-a + b > 0", "b - c >= 0"), ("a - b >= 0",)])

    def test_any(self):
        condition = Any(Below(A, B), Below(B, C))
        self.assertEqual(texts(condition, True), [("-a + b > 0",), ("a - b >= 0", "-b + c > 0")])
        self.assertEqual(texts(condition, False), [("a - b >= 0", "b - c >= 0")])

    def test_order_inside(self):
        condition = All(Any(Below(A, B), Below(B, C)), Below(C, A))
        self.assertEqual(texts(condition, False), [
            ("-a + b > 0", "-a + c >= 0"),
            ("a - b >= 0", "-b + c > 0", "-a + c >= 0"),
            ("a - b >= 0", "b - c >= 0"),
        ])
        condition = Any(Not(Any(Below(A, B), Below(B, C))), Below(C, A))
        self.assertEqual(texts(condition, True), [
            ("a - b >= 0", "b - c >= 0"),
            ("-a + b > 0", "a - c > 0"),
            ("a - b >= 0", "-b + c > 0", "a - c > 0"),
        ])

    def test_as_the_definition_says(self):
        chance = random.Random(5)
        for _ in range(300):
            plan = random_plan(chance)
            for truth in (True, False):
                self.assertEqual(list(built(plan).ways(truth)), wanted(plan, truth))

    def test_many_ways(self):
        plan = ("any", *[("=", A, B)] * 11)
        self.assertEqual(list(built(plan).ways(False)), wanted(plan, False))
        self.assertEqual(len(list(built(plan).ways(False))), 2048)

    def test_exactly_one_way_has_only_facts_that_hold(self):
        chance = random.Random(6)
        for _ in range(60):
            condition = built(random_plan(chance))
            for numbers in itertools.product(range(3), repeat=3):
                values = tuple(zip("abc", numbers))
                for truth in (True, False):
                    good = [way for way in condition.ways(truth) if all(
                        form.evaluate(values) > 0 if strict else form.evaluate(values) >= 0 for form, strict in way)]
                    self.assertEqual(len(good), 1 if condition(values) is truth else 0)

    def test_the_same_each_time(self):
        condition = All(Any(Below(A, B), Same(B, C)), Not(Same(A, C)))
        for truth in (True, False):
            self.assertEqual(list(condition.ways(truth)), list(condition.ways(truth=truth)))
        self.assertEqual(str(condition), "all(any(a < b, b = c), not(a = c))")

    def test_it_is_a_generator(self):
        found = Any(LESS, Same(A, B)).ways(True)
        self.assertIs(iter(found), found)
        self.assertEqual(next(found), ((B - A, True),))

    def test_invalid_truth(self):
        for condition in (LESS, Same(A, B), Not(LESS), All(), Any(), All(LESS, LESS)):
            for value in STRANGE + [0, 1, -1, "True", "", (), (True,), LESS, A]:
                self.assertIs(raised(InvalidTruth, lambda: next(condition.ways(value))).value, value)
                self.assertIs(raised(InvalidTruth, lambda: list(condition.ways(truth=value))).value, value)


if __name__ == "__main__":
    unittest.main()
