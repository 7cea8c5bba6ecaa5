import inspect
import unittest

from blockmoves.alike import find_difference
from blockmoves.catalog import ring, ring_pop, ring_push, ring_turn, stack, stack_drop, stack_push
from blockmoves.containers import Container
from blockmoves.errors import (
    BrokenLimit, Busy, InvalidEdit, NameTaken, NotAContainer, NotAForm, NotComparable, NothingToUndo, NotRight, UnknownName, Unlike)
from blockmoves.forms import Form
from blockmoves.judging import problems
from blockmoves.operations import Operation
from blockmoves.workshops import Workshop
from samples import STRANGE, Liar, raised
from simulator import differences_at, split_values

K, LEN, CAP = Form(k=1), Form(len=1), Form(cap=1)


def edited(operation, *pairs):
    """The operation with other words in its text."""
    text = str(operation)
    for old, new in pairs:
        assert old in text, old
        text = text.replace(old, new)
    return Operation.read(operation.container, text)


PUSH, POP, TURN = ring_push(), ring_pop(), ring_turn()
# A pop that does the same otherwise, and one that does something else.
POP_AT_ONCE = edited(POP, ("  let len = -k + len\n", ""), ("body\n", "body\n  let len = -k + len\n"))
POP_NOTHING = edited(POP, ("view[k .. len]", "view[0 .. len]"), ("  let len = -k + len\n", ""), ("    let head = head + k\n", ""),
                     ("    let head = -cap + head + k\n", ""))
WRONG = edited(PUSH, ("given[0 .. k]", "given[0 .. k] reversed"))
# Turns by three reversals, one of them done twice more.
DEAR_TURN = edited(TURN, ("  reverse buf[head] (len)\n", "  reverse buf[head] (len)\n  reverse buf[head] (len)\n  reverse buf[head] (len)\n"))


def state_of(workshop):
    """All that a workshop tells."""
    return (workshop.container, workshop.names, workshop.history, list(workshop), len(workshop), repr(workshop),
            [(name, workshop.operation(name), workshop.limit_of(name)) for name in workshop.names])


class WorkshopTest(unittest.TestCase):
    def filled(self):
        workshop = Workshop(ring())
        workshop.do_all(("add", PUSH), ("add", POP), ("limit", "push", K, (1, 1)))
        return workshop

    def unchanged(self, workshop, kind, call, *args, **named):
        """The error; the workshop is as it was before."""
        before = state_of(workshop)
        error = raised(kind, call, *args, **named)
        self.assertIs(type(error), kind)
        self.assertEqual(state_of(workshop), before)
        return error

    def test_example(self):
        workshop = Workshop(ring())
        workshop.do_all(("add", ring_push()), ("add", ring_pop()), ("limit", "push", Form(k=1), (1, 1)))
        workshop.do(("remove", "pop"))
        workshop.undo()
        self.assertEqual(
            [workshop.names, workshop.limit_of("push")[1], workshop.limit_of("pop"), len(workshop.history), "pop" in workshop,
             list(workshop), repr(workshop)],
            [("pop", "push"), (1, 1), None, 3, True, ["pop", "push"], "Workshop(2 operations)"])

    def test_new(self):
        workshop = Workshop(container=ring())
        self.assertEqual(workshop.container, ring())
        self.assertEqual((workshop.names, workshop.history, len(workshop), list(workshop)), ((), (), 0, []))
        self.assertEqual(repr(workshop), "Workshop(0 operations)")
        self.assertIsNone(workshop.do(("add", PUSH)))
        self.assertEqual(repr(workshop), "Workshop(1 operations)")
        self.assertIsNone(workshop.undo())
        self.assertIsNone(workshop.do_all())
        self.assertEqual(workshop.history, ())

    def test_wrong_containers(self):
        for value in STRANGE + [True, 1, str(ring()), PUSH, ()]:
            self.assertIs(raised(NotAContainer, Workshop, value).value, value)
        for old, new, kind in [("invariant len <= cap", "invariant all()", "view"), ("begin len = 0", "begin len = 2*n", "start"),
                               ("begin len = 0", "begin len = n", None)]:
            container = Container.read(str(stack()).replace(old, new))
            if kind is None:
                self.assertEqual(len(Workshop(container)), 0)
            else:
                error = raised(NotRight, Workshop, container)
                self.assertEqual((error.place, error.kind), (None, kind))

    def test_add(self):
        workshop = Workshop(ring())
        self.assertIsNone(workshop.do(edit=("add", PUSH)))
        self.assertEqual(workshop.names, ("push",))
        self.assertIs(workshop.operation("push"), PUSH)
        self.assertIsNone(workshop.limit_of("push"))
        for again in (PUSH, WRONG, edited(POP, ("operation pop", "operation push"))):
            self.assertEqual(self.unchanged(workshop, NameTaken, workshop.do, ("add", again)).name, "push")
        for wrong in (edited(WRONG, ("operation push", "operation other")), edited(POP, ("premise k <= len", "premise all()"))):
            error = self.unchanged(workshop, NotRight, workshop.do, ("add", wrong))
            self.assertEqual((error.place, error.kind), next(problems(wrong))[:2])
        workshop.do(("add", Operation.read(Container.read(str(ring())), str(POP))))
        self.assertEqual(workshop.names, ("pop", "push"))
        self.assertEqual(workshop.operation("pop"), POP)

    def test_replace(self):
        workshop = self.filled()
        workshop.do(("replace", POP_AT_ONCE))
        self.assertIs(workshop.operation("pop"), POP_AT_ONCE)
        self.assertEqual(self.unchanged(workshop, UnknownName, workshop.do, ("replace", TURN)).name, "turn")
        self.assertEqual(self.unchanged(workshop, UnknownName, workshop.do, (
            "replace", edited(WRONG, ("operation push", "operation other")))).name, "other")
        error = self.unchanged(workshop, NotRight, workshop.do, ("replace", WRONG))
        self.assertEqual((error.place, error.kind), (7, "cell"))
        # NotRight comes before NotComparable, and this before Unlike.
        bare = Operation.read(ring(), "operation push\nsize k\npremise all()\nbody\nview\n  view[0 .. len]")
        self.unchanged(workshop, NotComparable, workshop.do, ("replace", bare))
        error = self.unchanged(workshop, NotRight, workshop.do, ("replace", edited(bare, ("view[0 .. len]", "view[0 .. len] reversed"))))
        self.assertEqual(error.kind, "cell")
        error = self.unchanged(workshop, Unlike, workshop.do, ("replace", POP_NOTHING))
        self.assertEqual(tuple(name for name, _ in error.value), POP.unknowns)
        self.assertIsNotNone(find_difference(POP, POP_NOTHING))
        for pair in ((POP_AT_ONCE, POP_NOTHING), (POP_NOTHING, POP_AT_ONCE)):
            self.assertTrue(differences_at(*pair, *split_values(POP, error.value), "view"))

    def test_replace_with_another_premise(self):
        workshop = self.filled()
        less = edited(POP, ("premise k <= len", "premise all(k <= len, head = 0)"))
        workshop.do(("replace", less))
        # Only calls that both allow count: so step by step it may become another one.
        workshop.do(("replace", edited(POP, ("premise k <= len", "premise all(k <= len, 0 < head)"))))
        workshop.do(("replace", edited(POP_NOTHING, ("premise k <= len", "premise all(k <= len, k = 0)"))))
        self.assertEqual(len(workshop.history), 6)
        for _ in range(3):
            workshop.undo()
        self.assertEqual(workshop.operation("pop"), POP)

    def test_replace_and_limit(self):
        workshop = Workshop(ring())
        workshop.do_all(("add", TURN), ("limit", "turn", LEN, (3, 1)), ("replace", TURN))
        error = self.unchanged(workshop, BrokenLimit, workshop.do, ("replace", DEAR_TURN))
        self.assertEqual(error.name, "turn")
        workshop.do_all(("limit", "turn", LEN, (4, 1)), ("replace", DEAR_TURN))
        self.assertEqual(workshop.limit_of("turn"), (LEN, (4, 1)))
        self.assertEqual(self.unchanged(workshop, BrokenLimit, workshop.do, ("limit", "turn", LEN, (3, 1))).name, "turn")
        # Unlike comes before BrokenLimit.
        workshop = Workshop(ring())
        workshop.do_all(("add", POP_NOTHING), ("limit", "pop", K, (1, 1)))
        self.unchanged(workshop, Unlike, workshop.do, ("replace", edited(POP, (
            "body\n", "body\n  reverse buf[0] (cap)\n  reverse buf[0] (cap)\n"))))

    def test_remove(self):
        workshop = self.filled()
        workshop.do(("remove", "push"))
        self.assertEqual(workshop.names, ("pop",))
        for name in ("push", "", "view", "Pop", "no name at all", "pop "):
            self.assertEqual(self.unchanged(workshop, UnknownName, workshop.do, ("remove", name)).name, name)
        # The limit went, too, and does not come back with another one of its name.
        workshop.do(("add", PUSH))
        self.assertIsNone(workshop.limit_of("push"))
        workshop.undo()
        workshop.undo()
        self.assertEqual(workshop.limit_of("push"), (K, (1, 1)))

    def test_limit(self):
        workshop = self.filled()
        for form, fraction in [(K, (1, 1)), (K, (7, 7)), (K * 2, (1, 2)), (K + LEN, (9, 8)), (CAP, (1, 1))]:
            workshop.do(("limit", "push", form, fraction))
            self.assertEqual(workshop.limit_of("push"), (form, fraction))
        for form, fraction in [(K, (0, 1)), (K, (99, 100)), (LEN, (9, 1)), (Form(), (10 ** 9, 1)), (K * 2, (1, 3))]:
            self.assertEqual(self.unchanged(workshop, BrokenLimit, workshop.do, ("limit", "push", form, fraction)).name, "push")
        self.assertEqual(self.unchanged(workshop, UnknownName, workshop.do, ("limit", "turn", Form(x=1), (1, 1))).name, "turn")
        for form in (Form(n=1), Form(k=1, m=1), Form.read("@"), Form(buf=1)):
            self.assertIs(self.unchanged(workshop, NotAForm, workshop.do, ("limit", "push", form, (0, 1))).value, form)
        still = Operation.read(ring(), "operation still\npremise all()\nbody\nview\n  view[0 .. len]")
        workshop.do_all(("add", still), ("limit", "still", Form(), (0, 1)), ("limit", "still", CAP, (0, 5)))
        self.assertEqual(workshop.limit_of("still"), (CAP, (0, 5)))
        self.unchanged(workshop, NotAForm, workshop.do, ("limit", "still", K, (0, 1)))

    def test_no_edits(self):
        workshop = self.filled()
        wrong = STRANGE + [
            True, 1, "", "add", (), ("add",), ("add", PUSH, PUSH), ["add", PUSH], ("add", str(PUSH)), ("add", stack_push()), ("add", None),
            ("ADD", PUSH), ("append", PUSH), (PUSH, "add"), ("replace",), ("replace", "push"), ("replace", stack_drop()), ("remove",),
            ("remove", POP), ("remove", None), ("remove", 1), ("remove", ("pop",)), ("remove", b"pop"), ("remove", "pop", "pop"),
            ("limit", "push"), ("limit", "push", K), ("limit", "push", K, (1, 1), 1), ("limit", PUSH, K, (1, 1)), ("limit", None, K, (1, 1)),
            ("limit", "push", "k", (1, 1)), ("limit", "push", None, (1, 1)), ("limit", "push", K * -1, (1, 1)),
            ("limit", "push", LEN - K, (1, 1)), ("limit", "push", K, 1), ("limit", "push", K, (1,)), ("limit", "push", K, (1, 0)),
            ("limit", "push", K, (-1, 1)), ("limit", "push", K, (True, 1)), ("limit", "push", K, (1, True)), ("limit", "push", K, [1, 1]),
            ("limit", "push", K, (1, 1, 1)), ("limit", "push", K, None), (Liar(), PUSH), ("remove", Liar()), (None, "pop"), (True, PUSH),
            ("undo",), ("add", Liar())]
        for value in wrong:
            self.assertEqual(self.unchanged(workshop, InvalidEdit, workshop.do, value).index, 0)
            self.assertEqual(self.unchanged(workshop, InvalidEdit, workshop.do_all, value).index, 0)
            # Before anything is done, so that the watch is not called either.
            error = self.unchanged(workshop, InvalidEdit, workshop.do_all, ("remove", "pop"), ("remove", "none"), value, (), watch=self.fail)
            self.assertEqual(error.index, 2)

    def test_undo(self):
        workshop = Workshop(ring())
        self.unchanged(workshop, NothingToUndo, workshop.undo)
        edits = [("add", PUSH), ("add", POP), ("limit", "push", K, (1, 1)), ("replace", POP_AT_ONCE), ("limit", "push", K + LEN, (2, 1)),
                 ("remove", "push"), ("add", TURN), ("limit", "turn", LEN, (2, 1)), ("remove", "turn"), ("add", PUSH),
                 ("replace", PUSH), ("remove", "pop")]
        states = [state_of(workshop)]
        for edit in edits:
            workshop.do(edit)
            states.append(state_of(workshop))
        self.assertEqual(workshop.history, tuple(edits))
        for _ in range(2):
            for state in states[-2::-1]:
                workshop.undo()
                self.assertEqual(state_of(workshop), state)
            self.unchanged(workshop, NothingToUndo, workshop.undo)
            for edit, state in zip(edits, states[1:]):
                workshop.do(edit)
                self.assertEqual(state_of(workshop), state)
        for _ in edits:
            workshop.undo()
        workshop.do_all(*edits)
        self.assertEqual(state_of(workshop), states[-1])
        workshop.undo()
        self.assertEqual(state_of(workshop), states[-2])

    def test_do_all_or_none(self):
        workshop = self.filled()
        for edits, kind in [
            ((("remove", "push"), ("remove", "push")), UnknownName), ((("add", TURN), ("add", TURN)), NameTaken),
            ((("remove", "pop"), ("add", edited(WRONG, ("operation push", "operation pop")))), NotRight),
            ((("limit", "push", K, (5, 1)), ("limit", "push", K, (1, 5))), BrokenLimit),
            ((("add", TURN), ("limit", "turn", Form(x=1), (1, 1))), NotAForm), ((("add", TURN), ("replace", POP_NOTHING)), Unlike),
            ((("remove", "push"), ("remove", "pop"), ("add", TURN), ("limit", "turn", LEN, (1, 1))), BrokenLimit),
        ]:
            self.unchanged(workshop, kind, workshop.do_all, *edits)
            self.unchanged(workshop, kind, workshop.do_all, *edits, watch=lambda one, index: None)
        workshop.do_all(("remove", "push"), ("add", PUSH), ("limit", "push", K, (2, 1)), watch=None)
        self.assertEqual(workshop.limit_of("push"), (K, (2, 1)))
        self.assertEqual(len(workshop.history), 6)

    def test_names_and_items(self):
        workshop = self.filled()
        for value in STRANGE + [True, 1, "", "turn", "Push", ("push",), b"push", PUSH]:
            self.assertIs(self.unchanged(workshop, UnknownName, workshop.operation, value).name, value)
            self.assertIs(self.unchanged(workshop, UnknownName, workshop.limit_of, value).name, value)
            self.assertIs(value in workshop, False)
        self.assertIs("push" in workshop, True)
        self.assertEqual((workshop.operation(name="pop"), workshop.limit_of(name="push")), (POP, (K, (1, 1))))
        self.assertEqual([name for name in workshop], ["pop", "push"])
        self.assertEqual(sorted(workshop), list(workshop.names))
        for name in ("container", "names", "history"):
            self.assertTrue(hasattr(Workshop(ring()), name))

    def test_equality(self):
        one, other = self.filled(), self.filled()
        self.assertTrue(one == one)
        self.assertFalse(one != one)
        self.assertFalse(one == other)
        self.assertTrue(one != other)
        for value in (None, 1, "Workshop(2 operations)", one.container, one.names):
            self.assertFalse(one == value)
        # No workshop changes another one.
        other.do(("remove", "push"))
        self.assertEqual(one.names, ("pop", "push"))
        self.assertEqual(one.limit_of("push"), (K, (1, 1)))

    def test_signatures(self):
        for name, parameters in [("do", ["self", "edit"]), ("undo", ["self"]), ("operation", ["self", "name"]), ("limit_of", ["self", "name"]),
                                 ("do_all", ["self", "edits", "watch"]), ("__init__", ["self", "container"])]:
            self.assertEqual(list(inspect.signature(vars(Workshop)[name]).parameters), parameters)
        for name in ("__len__", "__contains__", "__iter__", "__eq__", "__repr__"):
            self.assertIn(name, vars(Workshop))


class WatchTest(unittest.TestCase):
    EDITS = [("add", PUSH), ("limit", "push", K, (3, 1)), ("add", POP), ("remove", "push")]

    def test_a_watch_that_looks(self):
        workshop, seen = Workshop(ring()), []

        def watch(one, index):
            self.assertIs(one, workshop)
            seen.append((index, one.names, len(one.history), one.limit_of("push") if "push" in one else None, list(one), repr(one)))
            return "no matter what"

        self.assertIsNone(workshop.do_all(*self.EDITS, watch=watch))
        limit = K, (3, 1)
        self.assertEqual(seen, [
            (0, ("push",), 1, None, ["push"], "Workshop(1 operations)"), (1, ("push",), 2, limit, ["push"], "Workshop(1 operations)"),
            (2, ("pop", "push"), 3, limit, ["pop", "push"], "Workshop(2 operations)"), (3, ("pop",), 4, None, ["pop"], "Workshop(1 operations)")])
        workshop.do_all(watch=self.fail)
        self.assertEqual(workshop.history, tuple(self.EDITS))

    def test_a_watch_that_asks_to_change(self):
        workshop, busy = Workshop(ring()), []

        def watch(one, index):
            before = state_of(one)
            for call in (lambda: one.do(("add", TURN)), lambda: one.do(None), lambda: one.do_all(), lambda: one.do_all(("add", TURN)),
                         lambda: one.do_all(5, watch=watch), one.undo):
                busy.append(type(raised(Busy, call)))
            self.assertEqual(state_of(one), before)

        workshop.do_all(*self.EDITS, watch=watch)
        self.assertEqual(busy, [Busy] * 24)
        workshop.undo()
        workshop.do(("add", TURN))
        self.assertEqual(workshop.names, ("pop", "push", "turn"))

    def test_a_watch_that_lets_busy_through(self):
        workshop = Workshop(ring())
        workshop.do(("add", TURN))
        before = state_of(workshop)
        for deed in (lambda one: one.undo(), lambda one: one.do(("remove", "turn")), lambda one: one.do_all()):
            with self.assertRaises(Busy):
                workshop.do_all(*self.EDITS, watch=lambda one, index: deed(one) if index == 2 else None)
            self.assertEqual(state_of(workshop), before)
            workshop.do(("add", PUSH))
            workshop.undo()

    def test_a_watch_that_raises(self):
        for error in (ValueError("a"), KeyError("a"), BrokenLimit("x"), InvalidEdit(7), KeyboardInterrupt(), RuntimeError(), GeneratorExit(),
                      StopIteration()):
            for at in range(len(self.EDITS)):
                workshop = Workshop(ring())
                workshop.do_all(("add", TURN), ("limit", "turn", LEN, (2, 1)))
                before, calls = state_of(workshop), []

                def watch(one, index):
                    calls.append(index)
                    if index == at:
                        raise error

                with self.assertRaises(type(error)) as caught:
                    workshop.do_all(*self.EDITS, watch=watch)
                self.assertIs(caught.exception, error)
                self.assertEqual(calls, list(range(at + 1)))
                self.assertEqual(state_of(workshop), before)
                workshop.do(("add", PUSH))
                workshop.undo()
                workshop.undo()
                self.assertIsNone(workshop.limit_of("turn"))

    def test_an_edit_that_raises_behind_a_watch(self):
        workshop, calls = Workshop(ring()), []
        with self.assertRaises(NameTaken):
            workshop.do_all(("add", PUSH), ("add", POP), ("add", PUSH), watch=lambda one, index: calls.append(index))
        self.assertEqual(calls, [0, 1])
        self.assertEqual((workshop.names, workshop.history), ((), ()))

    def test_other_workshops_while_a_watch_runs(self):
        workshop, other = Workshop(ring()), Workshop(stack())

        def watch(one, index):
            other.do_all(("add", stack_push() if index == 0 else stack_drop()), watch=lambda two, at: raised(Busy, one.undo))

        workshop.do_all(("add", PUSH), ("add", POP), watch=watch)
        self.assertEqual((workshop.names, other.names), (("pop", "push"), ("drop", "push")))


if __name__ == "__main__":
    unittest.main()
