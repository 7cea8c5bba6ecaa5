import random
import unittest

from blockmoves.catalog import ring, ring_pop, ring_push, ring_turn, stack, stack_drop, stack_push
from blockmoves.certificates import certify, certify_alike, certify_bound, certify_kept, certify_sound
from blockmoves.checker import holds
from blockmoves.conditions import All, read_condition
from blockmoves.forms import Form
from blockmoves.operations import Operation
from again import (
    demands_again, demands_of_both_again, demands_of_bound_again, demands_of_container_again, demands_of_kept_again)
from makers import ROW, made
from samples import GREAT, STRANGE, Liar
from simulator import random_container, random_operation, small_values

K, LEN, CAP, ZERO = Form(k=1), Form(len=1), Form(cap=1), Form()
HALF = ((read_condition("cap <= 2*len"), Form(len=4, cap=-2)), (All(), ZERO))


def all_claims():
    """A pair (claim, certificate) of each kind."""
    wrong = Operation.read(stack(), str(stack_drop()).replace("up", "down"))
    other = Operation.read(stack(), str(stack_push()).replace("2*k + 2*len", "3*k + 2*len"))
    full = read_condition("cap <= 2*len")
    return [
        certify(stack_drop()), certify(wrong), certify_alike(stack_push(), other), certify_alike(stack_push(), other, by="cells"),
        certify_kept(stack_push(), full), certify_kept(stack_drop(), full), certify_bound(stack_push(), HALF, K, (5, 1)),
        certify_bound(stack_push(), HALF, K, (49, 10)), certify_sound(ring()),
    ]


WORDS = ["right", "wrong", "alike", "unlike", "kept", "not kept", "at most", "more than", "sound"]


def facts_refuted(triples):
    """The pairs of a refutation, by plain sums; None if any value is none."""
    sums, strictly = {}, False
    if type(triples) is not tuple:
        return None
    for triple in triples:
        if type(triple) is not tuple or len(triple) != 3:
            return None
        text, strict, many = triple
        if type(text) is not str or type(strict) is not bool or type(many) is not int or many < 0:
            return None
        try:
            form = Form.read(text)
        except ValueError:
            return None
        for symbol in form.symbols:
            sums[symbol] = sums.get(symbol, 0) + form.factor(symbol) * many
        strictly = strictly or (strict and many > 0)
    if not strictly or any(total > 0 for total in sums.values()):
        return None
    return {(text, strict) for text, strict, _ in triples}


def proves(certificate, demands):
    """Whether it has a refutation for each of the demands, sets of facts."""
    refuted = [facts_refuted(triples) for triples in certificate]
    return None not in refuted and all(any(facts <= demand for facts in refuted) for demand in demands)


def changed(chance, certificate):
    """The certificate with one thing changed."""
    rows = [list(triples) for triples in certificate]
    at = chance.choice([at for at, row in enumerate(rows) if row])
    row = rows[at]
    way = chance.choice(["leave", "more", "less", "short", "strict", "add", "zero", "times", "twice", "empty"])
    place = chance.randrange(len(row))
    text, strict, many = row[place]
    if way == "leave":
        rows.pop(at)
    elif way in ("more", "less"):
        row[place] = text, strict, many + (1 if way == "more" else -1)
    elif way == "short":
        row.pop(place)
    elif way == "strict":
        row[place] = text, not strict, many
    elif way in ("add", "zero"):
        row.append((chance.choice(["0", "k", "-len", "cap - len", "len", "-cap + k", "@"]), chance.random() < 0.5,
                    0 if way == "zero" else 1))
    elif way == "times":
        rows[at] = [(text, strict, many * 3) for text, strict, many in row]
    elif way == "twice":
        row.append(row[place])
    else:
        rows.append([])
    return tuple(tuple(row) for row in rows)


class GeneralTest(unittest.TestCase):
    def test_example(self):
        back = Operation.read(stack(), "operation back\npremise all()\nbody\n  reverse buf[0] (len)\nview\n  view[0 .. len] reversed")
        claim, certificate = certify(back)
        bad = Operation.read(stack(), str(back).replace(" reversed", ""))
        other = ("wrong", str(stack()), str(bad), 1, "cell")
        self.assertEqual(
            [claim[0], holds(claim, certificate), holds(claim, ()), certify(bad)[0] == other, holds(other, (("cap", 2), ("len", 2))),
             holds(other, (("cap", 1), ("len", 1))), certify_sound(ring())[0][0]],
            ["right", True, False, True, True, False, "sound"])

    def test_all_kinds(self):
        claims = all_claims()
        self.assertEqual([claim[0] for claim, _ in claims], ["right", "wrong", "alike", "unlike", "kept", "not kept", "at most",
                                                             "more than", "sound"])
        for claim, certificate in claims:
            self.assertIs(holds(claim, certificate), True)
            self.assertIs(holds(certificate=certificate, claim=claim), True)

    def test_written_out(self):
        # Nothing but these facts is there: 0 <= n for the view, and 0 <= 0.
        still = made(ROW, head="", view=["view[0 .. n]"])
        claim = ("right", str(ROW), str(still))
        zero, below = (("0", True, 1),), (("-n", True, 1),)
        # "invariant": no false way. "view", "promise": 0 > 0 and -n > 0. "length": 0 > 0. "cell": 0 > 0.
        self.assertTrue(holds(claim, (zero, below)))
        self.assertTrue(holds(claim, (below, zero)))
        self.assertTrue(holds(claim, (zero, (("-n", True, 7), ("n", False, 7)))))
        self.assertTrue(holds(claim, (zero, (("-n", True, 7), ("n", False, 7), ("0", False, 0)))))
        self.assertTrue(holds(claim, (zero, below, below, (("-n", True, 1), ("-n", True, 2)))))
        # A refutation that no demand has, but that is one.
        self.assertTrue(holds(claim, (zero, below, (("-a", True, 1), ("@ - b", True, 0)))))
        for wrong in [(), (zero,), (below,), (zero, ()), (zero, below, ()), (zero, (("-n", False, 1),)), (zero, (("-n", True, 0),)),
                      (zero, (("n", True, 1),)), (zero, (("-n", True, 1), ("n", False, 2))), (zero, (("-n", True, 1), ("a", False, 0))),
                      (zero, (("-n", True, True),)), (zero, (("-n", 1, 1),)), (zero, (("-n", True, -1),)), (zero, (("-1*n", True, 1),)),
                      (zero, (("-n", True),)), (zero, (("-n", True, 1, 1),)), (zero, ((True, "-n", 1),)), (zero, [("-n", True, 1)]),
                      [zero, below], (zero, (["-n", True, 1],)), (zero, ((Form(n=-1), True, 1),)), (zero, below, (("a", True, 1),)),
                      (zero, below, None), (zero, below, (None,)), (zero, below, (("a - n", True, 1),)), (zero, below, 5), zero, below[0],
                      (zero, (("-n ", True, 1),)), (zero, (("", True, 1),)), (zero, (("- n", True, 1),)), (zero, (("-n", True, "1"),)),
                      (zero, (("-n", True, 1), ("0", True, None)))]:
            self.assertIs(holds(claim, wrong), False, wrong)

    def test_nothing_to_demand(self):
        never = made(ROW, head="", premise="any()")
        for claim in (("right", str(ROW), str(never)), ("kept", str(ROW), str(never), "n = 0"),
                      ("alike", str(ROW), str(never), str(never), "cells"),
                      ("at most", str(ROW), str(never), (("all()", "0"),), "n", (0, 1))):
            self.assertIs(holds(claim, ()), True)
            self.assertIs(holds(claim, ((("0", True, 1),),)), True)
            for wrong in STRANGE + [((),), (((),),), (("0", True, 1),), True, 0, ""]:
                self.assertIs(holds(claim, wrong), False)

    def test_each_refutation_is_needed_or_not(self):
        # What is accepted is just what the second program of the demands accepts.
        chance = random.Random(81)
        made_by_words = {word: set() for word in ("right", "kept", "at most", "sound", "alike")}
        full = read_condition("cap <= 2*len")
        jobs = []
        for operation in (stack_drop(), stack_push(), ring_pop(), ring_turn()):
            demands = {demand[2] for demand in demands_again(operation)}
            jobs.append((*certify(operation), demands))
        jobs.append((*certify_kept(stack_push(), full), demands_of_kept_again(stack_push(), full)))
        jobs.append((*certify_bound(stack_push(), HALF, K, (5, 1)), demands_of_bound_again(stack_push(), HALF, K, (5, 1))))
        jobs += [(*certify_sound(one()), demands_of_container_again(one())) for one in (ring, stack)]
        for operation in (stack_drop(), stack_push()):
            for by in ("view", "cells"):
                demands = {demand[1] for demand in demands_of_both_again(operation, operation, by)}
                jobs.append((*certify_alike(operation, operation, by=by), demands))
        for claim, certificate, demands in jobs:
            self.assertTrue(proves(certificate, demands))
            for at in range(len(certificate)):
                less = certificate[:at] + certificate[at + 1:]
                self.assertIs(holds(claim, less), proves(less, demands))
            for _ in range(60):
                other = changed(chance, certificate)
                expected = proves(other, demands)
                self.assertIs(holds(claim, other), expected, (claim[0], other))
                made_by_words[claim[0]].add(expected)
        self.assertEqual(set(map(frozenset, made_by_words.values())), {frozenset({True, False})})

    def test_at_random(self):
        chance = random.Random(82)
        found = {True: 0, False: 0}
        for _ in range(60):
            operation = random_operation(chance, random_container(chance))
            condition = chance.choice([read_condition("len <= cap"), read_condition("any(cap < 2*len, len = 0)")])
            claim, certificate = certify_kept(operation, condition)
            if claim[0] == "kept" and certificate:
                demands = demands_of_kept_again(operation, condition)
                for _ in range(8):
                    other = changed(chance, changed(chance, certificate) or certificate) if len(certificate) > 1 else certificate
                    self.assertIs(holds(claim, other), proves(other, demands))
                    found[proves(other, demands)] += 1
        self.assertGreater(min(found.values()), 20)

    def test_other_texts(self):
        # The certificate of one claim is none of a claim on another operation or container.
        claim, certificate = certify(stack_drop())
        for old, new in [("k <= len", "k <= cap"), ("up buf", "down buf"), ("  let len = -k + len\n", ""), ("view[k .. len]", "view[0 .. len]"),
                         ("view[0 .. k]", "view[0 .. k] reversed")]:
            self.assertIn(old, claim[2])
            self.assertIs(holds(("right", claim[1], claim[2].replace(old, new)), certificate), False, old)
        self.assertIs(holds(("right", claim[1].replace("invariant len <= cap", "invariant len = cap"), claim[2]), certificate), False)
        self.assertIs(holds(("right", claim[1].replace("buf", "row"), claim[2]), certificate), False)
        self.assertIs(holds(("right", claim[1].replace("buf", "row"), claim[2].replace("buf", "row")), certificate), True)
        self.assertIs(holds(("right", claim[1].replace("parameters n", "parameters n m"), claim[2]), certificate), True)


class ExamplesTest(unittest.TestCase):
    def test_wrong(self):
        wrong = Operation.read(stack(), str(stack_drop()).replace("up", "down"))
        claim = ("wrong", str(stack()), str(wrong), 1, "clobber")
        accepted = 0
        for values in small_values(wrong.unknowns, 5):
            table = dict(values)
            expected = table["k"] > 0 and 2 * table["k"] < table["len"] and table["len"] <= table["cap"]
            self.assertIs(holds(claim, values), expected, values)
            accepted += expected
        self.assertGreater(accepted, 1)
        good = (("cap", 4), ("k", 1), ("len", 3))
        self.assertTrue(holds(claim, good))
        self.assertTrue(holds(claim, (("cap", GREAT), ("k", 1), ("len", GREAT))))
        for place, kind in [(0, "clobber"), (2, "clobber"), (1, "overlap"), (3, "cell"), (-2, "clobber"), (True, "clobber"), ("1", "clobber"),
                            (None, "clobber"), (1, None), (1, "Clobber"), (1, ""), (1, 1), (1, ("clobber",)), (1, Liar()), (Liar(), "clobber")]:
            self.assertIs(holds(("wrong", str(stack()), str(wrong), place, kind), good), False)
        for values in [(), good[::-1], good[:2], good[1:], good + (("n", 1),), (("a", 0),) + good, list(good), good + good[-1:],
                       (("cap", True), ("k", 1), ("len", 3)), (("cap", 4), ("k", True), ("len", 3)), (("cap", 4), ["k", 1], ("len", 3)),
                       (("cap", 4), ("k", 1), ("len", -3)), (("cap", 4), ("k", "1"), ("len", 3)), None, "", 5, ((),), (good,), dict(good),
                       (("@", 1),) + good, (("cap", 4), ("k", 1), ("len", 3), ("len", 3)), (("cap", 4), ("k", 1, 1), ("len", 3)), Liar()]:
            self.assertIs(holds(claim, values), False, values)

    def test_several_problems_of_one_call(self):
        operation = made(stack(), "let len = 2*cap", view=["fill 0 (-k)"])
        values = (("cap", 1), ("k", 1), ("len", 0))
        for kind, expected in [("invariant", True), ("view", True), ("promise", True), ("length", False), ("cell", False), ("field", False)]:
            self.assertIs(holds(("wrong", str(stack()), str(operation), 1, kind), values), expected, kind)
            self.assertIs(holds(("wrong", str(stack()), str(operation), 0, kind), values), False)

    def test_unlike(self):
        one, other = [made(stack(), *rows, head="", premise=premise) for rows, premise in (
            (["fill buf[0] (cap) 1"], "all()"), (["fill buf[0] (len) 1"], "len < cap"))]
        for by, expected in (("view", False), ("cells", True)):
            claim = ("unlike", str(stack()), str(one), str(other), by)
            self.assertIs(holds(claim, (("cap", 2), ("len", 1))), expected)
            self.assertIs(holds(claim, (("cap", 2), ("len", 2))), False)
            self.assertIs(holds(claim, (("cap", 2), ("len", 3))), False)
        # Both calls have to be allowed.
        twos = made(stack(), "fill buf[0] (len) 2", head="", premise="len < cap")
        for left, right in ((one, twos), (twos, one)):
            for by in ("view", "cells"):
                claim = ("unlike", str(stack()), str(left), str(right), by)
                self.assertIs(holds(claim, (("cap", 2), ("len", 2))), False)
                self.assertIs(holds(claim, (("cap", 2), ("len", 1))), True)
        stops = made(stack(), "reverse buf[0] (2*len)", head="")
        for by in ("view", "cells"):
            self.assertIs(holds(("unlike", str(stack()), str(one), str(stops), by), (("cap", 1), ("len", 1))), True)
            self.assertIs(holds(("unlike", str(stack()), str(stops), str(stops), by), (("cap", 1), ("len", 1))), True)
            self.assertIs(holds(("unlike", str(stack()), str(stops), str(stops), by), (("cap", 2), ("len", 1))), False)
        for by in ("cell", "", None, 1, True, ("view",), Liar(), ["view"]):
            self.assertIs(holds(("unlike", str(stack()), str(one), str(stops), by), (("cap", 1), ("len", 1))), False)
            self.assertIs(holds(("alike", str(stack()), str(made(stack(), premise="any()")), str(made(stack(), premise="any()")), by), ()), False)

    def test_not_comparable(self):
        never = [made(stack(), head=head, premise="any()", results=results) for head, results in (
            ("", []), ("size k", []), ("size m", []), ("input a len", []), ("input b len", []), ("output a len", [["a"]]), ("output a cap", [["a"]]))]
        for first in never:
            for second in never:
                claim = ("alike", str(stack()), str(first), str(second), "view")
                self.assertIs(holds(claim, ()), first is second)

    def test_not_kept(self):
        claim = ("not kept", str(stack()), str(stack_drop()), "cap <= 2*len")
        for values in small_values(("cap", "k", "len"), 4):
            cap, k, size = [number for _, number in values]
            self.assertIs(holds(claim, values), k <= size <= cap <= 2 * size and 2 * (size - k) < cap)
        for condition in ("cap <=2*len", "cap", "", "k = 0", "n = 0", None, 1, read_condition("cap <= 2*len"), ("all()",), Liar()):
            self.assertIs(holds(("not kept", str(stack()), str(stack_drop()), condition), (("cap", 2), ("k", 1), ("len", 1))), False)

    def test_more_than(self):
        pairs = (("cap <= 2*len", "-2*cap + 4*len"), ("all()", "0"))
        claim = ("more than", str(stack()), str(stack_push()), pairs, "k", (49, 10))
        for values in small_values(("cap", "k", "len"), 5):
            cap, k, size = [number for _, number in values]
            cost = k + (2 * (k + size) if cap < k + size else 0)
            end = 2 * (k + size) if cap < k + size else cap
            before, after = [4 * n - 2 * c if c <= 2 * n else 0 for n, c in ((size, cap), (size + k, end))]
            self.assertIs(holds(claim, values), size <= cap and 10 * (cost + after - before) > 49 * k, values)
        values = (("cap", 2), ("k", 1), ("len", 1))
        self.assertTrue(holds(claim, values))
        for parts in [(pairs, "k", (5, 1)), (pairs, "k", (49, 0)), (pairs, "k", (-1, 1)), (pairs, "k", [49, 10]), (pairs, "k", (49,)),
                      (pairs, "k", (49, 10, 1)), (pairs, "k", (True, 1)), (pairs, "k", (1, True)), (pairs, "k", None), (pairs, "k", "1/1"),
                      (pairs, "-k", (0, 1)), (pairs, "n", (0, 1)), (pairs, "@", (0, 1)), (pairs, "1*k", (0, 1)), (pairs, None, (0, 1)),
                      (pairs, Form(k=1), (0, 1)), (pairs[:1], "k", (0, 1)), ((), "k", (0, 1)), (None, "k", (0, 1)), (list(pairs), "k", (0, 1)),
                      (pairs[::-1], "k", (0, 1)), (pairs[:1] * 3 + pairs[1:], "k", (0, 1)), ((("all()", "k"),), "k", (0, 1)),
                      ((("all()",),), "k", (0, 1)), ((("all()", "0", "0"),), "k", (0, 1)), ((["all()", "0"],), "k", (0, 1)),
                      ((("k = 0", "0"), ("all()", "0")), "k", (0, 1)), ((("all()", 0),), "k", (0, 1)), ((("all(all())", "0"),), "k", (0, 1)),
                      (("all()", "0"), "k", (0, 1)), ((("0", "all()"),), "k", (0, 1)), ((Liar(),), "k", (0, 1)), (Liar(), "k", (0, 1))]:
            self.assertIs(holds(("more than", str(stack()), str(stack_push()), *parts), values), False, parts)
        for parts in [(pairs, "k", (0, 7)), (pairs[:1] * 2 + pairs[1:], "k", (0, 1)), ((("all()", "cap"),), "cap + k", (0, 1)),
                      ((("all()", "0"),), "0", (9, 1))]:
            self.assertIs(holds(("more than", str(stack()), str(stack_push()), *parts), values), True, parts)


class AnyValuesTest(unittest.TestCase):
    def test_no_claims(self):
        for value in STRANGE + [True, 1, "", "right", (), ("right",), ((),), (None,), (("right", "", ""),), [("right",)]]:
            for certificate in ((), None, value, (("cap", 1),)):
                self.assertIs(holds(value, certificate), False)

    def test_changed_claims(self):
        for claim, certificate in all_claims():
            for at in range(len(claim)):
                for value in STRANGE + [True, False, 0, -1, "", "right", (), claim, claim[at:at + 1], [claim[at]]]:
                    other = claim[:at] + (value,) + claim[at + 1:]
                    if value == "right" and at == 0 and claim[0] == "right":
                        continue
                    self.assertIs(holds(other, certificate), False, (claim[0], at, value))
                self.assertIs(holds(claim[:at] + claim[at + 1:], certificate), False)
                self.assertIs(holds(claim[:at] + claim[at:at + 1] + claim[at:], certificate), False)
            for text in (claim[1] + "\n", " " + claim[1], claim[1].replace("array", "row"), claim[1].replace("begin", "start")):
                self.assertIs(holds(claim[:1] + (text,) + claim[2:], certificate), False)
            if len(claim) > 2:
                for text in (claim[2] + "\n", claim[2].replace("operation", "function"), claim[2].replace("len", "most"), claim[1]):
                    self.assertIs(holds(claim[:2] + (text,) + claim[3:], certificate), False)
            self.assertIs(holds(list(claim), certificate), False)
            self.assertIs(holds(claim[::-1], certificate), False)
            self.assertIs(holds(claim, list(certificate)), False)
            for word in WORDS:
                if word != claim[0]:
                    self.assertIs(holds((word,) + claim[1:], certificate), False, (word, claim[0]))
            for value in STRANGE + [True, 0, "", (None,), ((),), certificate[::-1] + (1,), (certificate,)]:
                self.assertIs(holds(claim, value), False)
            self.assertIs(holds(claim, certificate), True)


if __name__ == "__main__":
    unittest.main()
