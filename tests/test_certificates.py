import random
import unittest

from blockmoves.alike import find_difference
from blockmoves.catalog import ring, ring_pop, ring_push, ring_turn, stack, stack_drop, stack_push
from blockmoves.certificates import certify, certify_alike, certify_bound, certify_kept, certify_sound
from blockmoves.checker import holds
from blockmoves.conditions import All, Below, read_condition
from blockmoves.containers import Container, is_sound
from blockmoves.costs import worst
from blockmoves.errors import (
    InvalidBy, InvalidFraction, InvalidPotential, NotACondition, NotAContainer, NotAForm, NotAnOperation, NotComparable)
from blockmoves.forms import Form
from blockmoves.judging import problems
from blockmoves.keeping import is_kept
from blockmoves.operations import Operation
from again import demands_again, demands_of_both_again
from makers import MARKED, PAIR, ROW, is_small, made, random_condition, varied
from samples import STRANGE, raised
from simulator import problems_at, random_container, random_operation, split_values

K, LEN, CAP, ZERO = Form(k=1), Form(len=1), Form(cap=1), Form()
CATALOG = (ring_push, ring_pop, ring_turn, stack_push, stack_drop)


class CertificatesTest(unittest.TestCase):
    def accepted(self, pair):
        """The claim; the certificate has the form of one, and the checker accepts it."""
        claim, certificate = pair
        self.assertTrue(type(pair) is tuple and type(claim) is tuple and type(certificate) is tuple)
        if claim[0] in ("right", "alike", "kept", "at most", "sound"):
            for triples in certificate:
                self.assertTrue(type(triples) is tuple and triples)
                for text, strict, many in triples:
                    self.assertTrue(type(text) is str and type(strict) is bool and type(many) is int and many >= 0)
        self.assertIs(holds(claim, certificate), True)
        return claim

    def test_claims(self):
        wrong = Operation.read(stack(), str(stack_drop()).replace("up", "down"))
        texts = str(stack()), str(stack_drop())
        self.assertEqual(self.accepted(certify(stack_drop())), ("right", *texts))
        self.assertEqual(self.accepted(certify(operation=wrong)), ("wrong", str(stack()), str(wrong), 1, "clobber"))
        for by in ("view", "cells"):
            self.assertEqual(self.accepted(certify_alike(stack_drop(), stack_drop(), by=by)), ("alike", *texts, texts[1], by))
            self.assertEqual(self.accepted(certify_alike(second=wrong, by=by, first=stack_drop())), ("unlike", *texts, str(wrong), by))
        self.assertEqual(self.accepted(certify_alike(stack_drop(), stack_drop()))[4], "view")
        full = read_condition("cap <= 2*len")
        self.assertEqual(self.accepted(certify_kept(stack_drop(), full)), ("not kept", *texts, "cap <= 2*len"))
        self.assertEqual(self.accepted(certify_kept(condition=full, operation=stack_push())),
                         ("kept", str(stack()), str(stack_push()), "cap <= 2*len"))
        self.assertEqual(self.accepted(certify_bound(stack_drop(), None, LEN, (6, 6))),
                         ("at most", *texts, (("all()", "0"),), "len", (6, 6)))
        potential = ((full, CAP - LEN), (All(), LEN * -2))
        self.assertEqual(self.accepted(certify_bound(stack_drop(), potential, LEN + K * 2, (0, 3))),
                         ("more than", *texts, (("cap <= 2*len", "cap - len"), ("all()", "-2*len")), "2*k + len", (0, 3)))
        self.assertEqual(self.accepted(certify_bound(fraction=(1, 9), form=CAP, potential=None, operation=stack_drop()))[0], "more than")
        self.assertEqual(self.accepted(certify_sound(stack())), ("sound", str(stack())))
        self.assertEqual(self.accepted(certify_sound(container=ring())), ("sound", str(ring())))

    def test_unsound(self):
        for old, new in [("invariant len <= cap", "invariant all()"), ("begin len = 0", "begin len = 2*n"), ("[0 .. len]", "[len .. cap]"),
                         ("[0 .. len]", "[0 .. cap - len]"), ("[0 .. len]", "[0 .. 2*len]"), ("case all()", "case cap <= len"),
                         ("[0 .. len]", "[0 .. len]\n  buf[cap .. cap]"), ("premise all()", "premise any()")]:
            container = Container.read(str(stack()).replace(old, new))
            found = certify_sound(container)
            self.assertIs(found is not None, is_sound(container))
            if found is not None:
                self.assertEqual(self.accepted(found), ("sound", str(container)))

    def test_catalog(self):
        for make in CATALOG:
            self.assertEqual(self.accepted(certify(make()))[0], "right")
            for by in ("view", "cells"):
                self.assertEqual(self.accepted(certify_alike(make(), make(), by=by))[0], "alike")
            self.assertEqual(self.accepted(certify_bound(make(), None, Form(**{name: 9 for name in make().unknowns}), (1, 1)))[0], "at most")
            self.assertEqual(self.accepted(certify_kept(make(), make().container.invariant))[0], "kept")
            self.assertEqual(certify(make()), certify(make()))

    def test_least_problem(self):
        # Of several problems the first one.
        many = made(ROW, "reverse x[0] (k)", "reverse x[0] (2*k)", view=["fill 0 (-n)"])
        self.assertEqual(self.accepted(certify(many))[3:], (0, "range"))
        late = made(ROW, "resize x (2*n)", head="", view=["view[0 .. n]"])
        self.assertEqual(self.accepted(certify(late))[3:], (1, "length"))

    def test_certificates_by_the_second_program(self):
        # Each demand, as told by the second program, has a refutation.
        for make in (ring_pop, ring_turn, stack_push, stack_drop):
            _, certificate = certify(make())
            rows = [{(text, strict) for text, strict, _ in triples} for triples in certificate]
            for _, _, facts in demands_again(make()):
                self.assertTrue(any(row <= facts for row in rows), facts)
        for by in ("view", "cells"):
            _, certificate = certify_alike(stack_push(), stack_push(), by=by)
            rows = [{(text, strict) for text, strict, _ in triples} for triples in certificate]
            for _, facts in demands_of_both_again(stack_push(), stack_push(), by):
                self.assertTrue(any(row <= facts for row in rows), facts)

    def test_random_operations(self):
        chance = random.Random(91)
        words = set()
        for _ in range(200):
            operation = random_operation(chance, random_container(chance))
            claim, certificate = certify(operation)
            self.accepted((claim, certificate))
            found = [(place, kind) for place, kind, _ in problems(operation)]
            self.assertEqual(claim[3:], found[0] if found else ())
            if found and is_small(certificate):
                self.assertIn(found[0], problems_at(operation, *split_values(operation, certificate)))
            fields = operation.container.fields
            condition = random_condition(chance, fields)
            kept = self.accepted(certify_kept(operation, condition))
            self.assertEqual(kept[0], "kept" if is_kept(operation, condition) else "not kept")
            form = Form(**{symbol: chance.choice([0, 1, 2]) for symbol in operation.unknowns})
            potential = chance.choice([None, ((condition, Form(len=2, cap=-1)), (All(), LEN))])
            fraction = chance.randint(0, 5), chance.randint(1, 3)
            bound = self.accepted(certify_bound(operation, potential, form, fraction))
            least = worst(operation, form, potential=potential)
            bounded = least is not None and least[0][0] * fraction[1] <= fraction[0] * least[0][1]
            self.assertEqual(bound[0], "at most" if bounded else "more than")
            words |= {claim[0], kept[0], bound[0]}
            sound = certify_sound(operation.container)
            self.assertIs(sound is not None, is_sound(operation.container))
            if sound is not None:
                words.add(self.accepted(sound)[0])
            other = varied(chance, operation)
            if other is not None:
                for by in ("view", "cells"):
                    both = self.accepted(certify_alike(operation, other, by=by))
                    self.assertEqual(both[0], "alike" if find_difference(operation, other, by=by) is None else "unlike")
                    words.add(both[0])
        self.assertEqual(words, {"right", "wrong", "alike", "unlike", "kept", "not kept", "at most", "more than", "sound"})

    def test_other_containers(self):
        for operation in (made(PAIR, "reverse left[0] (used)", head="", view=["view[0 .. 0]"]), made(PAIR, "let used = 0", head=""),
                          made(MARKED, "let f = g", "let g = f", head="", view=["view[0 .. n]"])):
            self.accepted(certify(operation))
            self.accepted(certify_alike(operation, operation))


class WrongArgumentsTest(unittest.TestCase):
    def test_no_operation(self):
        for value in STRANGE + [True, 1, str(stack_drop()), stack(), (stack_drop(),)]:
            self.assertIs(raised(NotAnOperation, certify, value).value, value)
            self.assertIs(raised(NotAnOperation, certify_alike, value, None, by=None).value, value)
            self.assertIs(raised(NotAnOperation, certify_alike, stack_drop(), value, by=None).value, value)
            self.assertIs(raised(NotAnOperation, certify_kept, value, None).value, value)
            self.assertIs(raised(NotAnOperation, certify_bound, value, 0, None, None).value, value)

    def test_others(self):
        for value in STRANGE + [True, 1, "", "views"]:
            self.assertIs(raised(InvalidBy, certify_alike, stack_drop(), stack_drop(), by=value).value, value)
            self.assertIs(raised(NotACondition, certify_kept, stack_drop(), value).value, value)
            self.assertIs(raised(NotAForm, certify_bound, stack_drop(), None, value, None).value, value)
            self.assertIs(raised(InvalidFraction, certify_bound, stack_drop(), None, K, value).value, value)
            self.assertIs(raised(NotAContainer, certify_sound, value).value, value)
        for value in STRANGE[1:] + [True, 1, (), ((All(), K),)]:
            self.assertIs(raised(InvalidPotential, certify_bound, stack_drop(), value, None, None).value, value)
        for value in (Form(k=-1), Form(n=1), Form.read("@")):
            self.assertIs(raised(NotAForm, certify_bound, stack_drop(), None, value, (1, 1)).value, value)
        for value in ((1, 0), (-1, 1), (True, 1), [1, 1], (1, 1, 1)):
            self.assertIs(raised(InvalidFraction, certify_bound, stack_drop(), None, K, value).value, value)
        sized = Below(K, LEN)
        self.assertIs(raised(NotACondition, certify_kept, stack_drop(), sized).value, sized)
        self.assertIs(type(raised(NotComparable, certify_alike, stack_drop(), stack_push(), by=None)), NotComparable)
        with self.assertRaises(TypeError):
            certify_alike(stack_drop(), stack_drop(), "view")


if __name__ == "__main__":
    unittest.main()
