import random
import unittest

from blockmoves.catalog import ring, ring_pop, ring_push, ring_turn, stack, stack_drop, stack_push
from blockmoves.containers import Container
from blockmoves.errors import (
    InvalidInputs, InvalidValues, NotAContainer, NotAllowed, NotAnOperation, NotAStore, NothingToUndo, NoView, Stopped,
    UnknownName)
from blockmoves.operations import Operation
from blockmoves.runs import is_allowed, promised, run
from blockmoves.stores import Store, Trial, tried
from samples import STRANGE, raised

N = (("n", 1),)


def k(number):
    return (("k", number),)


def filled():
    """A stack of two elements in an array of six."""
    store = Store(stack(), N)
    store.do(stack_push(), k(3), (7, 8, 9))
    store.do(stack_drop(), k(1))
    return store


def shape(store):
    """All that a store tells."""
    return (store.container, store.fields, tuple(store.cells(array) for array, _ in store.container.arrays), store.cost,
            store.history, len(store), repr(store))


class StoreTest(unittest.TestCase):
    def test_example(self):
        store = Store(stack(), (("n", 1),))
        first = [store.do(stack_push(), (("k", 2),), (7, 8)), store.shown(), store.cells("buf"), store.cost]
        second = [store.do(stack_push(), (("k", 1),), (9,)), store.fields, store.cost, len(store),
                  store.do(stack_drop(), (("k", 2),)), repr(store)]
        self.assertIsNone(store.undo())
        self.assertEqual(
            first + second + [store.shown()],
            [(), (7, 8), (7, 8, 0, 0), 6, (), (("cap", 4), ("len", 3)), 7, 2, ((7, 8),), "Store(2 fields, 3 calls)", (7, 8, 9)])

    def test_begin(self):
        for store in (Store(ring(), (("cap", 3),)), Store(values=(("cap", 3),), container=ring())):
            self.assertEqual(shape(store), (
                ring(), (("cap", 3), ("head", 0), ("len", 0)), ((0, 0, 0),), 0, (), 0, "Store(3 fields, 0 calls)"))
            self.assertEqual(store.shown(), ())
        text = str(ring()).replace("parameters cap", "parameters x b").replace("begin cap = cap", "begin cap = 2*b").replace(
            "begin head = 0", "begin head = b - x")
        self.assertEqual(Store(Container.read(text), (("b", 2), ("x", 1))).fields, (("cap", 4), ("head", 1), ("len", 0)))

    def test_not_allowed(self):
        text = str(stack()).replace("premise all()", "premise n < m").replace("parameters n", "parameters n m").replace(
            "begin len = 0", "begin len = m - 2*n")
        container = Container.read(text)
        self.assertEqual(Store(container, (("m", 2), ("n", 1))).fields, (("cap", 1), ("len", 0)))
        for values in ((("m", 2), ("n", 2)), (("m", 3), ("n", 2)), (("m", 0), ("n", 0))):
            self.assertIs(raised(NotAllowed, Store, container, values).value, values)
        # The invariant and a view are not asked for.
        self.assertEqual(Store(container, (("m", 9), ("n", 1))).fields, (("cap", 1), ("len", 7)))
        self.assertIsNone(raised(NoView, Store(container, (("m", 9), ("n", 1))).shown).__cause__)

    def test_wrong_beginnings(self):
        for value in STRANGE + [True, 1, str(stack()), stack_push(), ()]:
            for values in (N, None):
                self.assertIs(raised(NotAContainer, Store, value, values).value, value)
        for value in STRANGE + [True, 1, "n", (), (("m", 1),), (("cap", 1),), (("m", 1), ("n", 1)), (("n", -1),), (("n", True),),
                                [("n", 1)], (("n", 1), ("n", 1)), ("n", 1)]:
            self.assertIs(raised(InvalidValues, Store, stack(), value).value, value)

    def test_equal(self):
        one, other = filled(), filled()
        self.assertEqual(shape(one), shape(other))
        self.assertIs(one == one, True)
        self.assertIs(one != one, False)
        for value in STRANGE + [other, None, 2, (), stack(), repr(one), one.fields]:
            self.assertIs(one == value, False)
            self.assertIs(one != value, True)

    def test_calls(self):
        store = filled()
        self.assertEqual(shape(store)[1:], (
            (("cap", 6), ("len", 2)), ((8, 9, 9, 0, 0, 0),), 12,
            ((stack_push(), k(3), ((7, 8, 9),)), (stack_drop(), k(1), ())), 2, "Store(2 fields, 2 calls)"))
        self.assertEqual(store.do(values=k(2), operation=stack_drop()), ((8, 9),))
        self.assertEqual((store.shown(), store.cost, len(store)), ((), 14, 3))
        self.assertEqual(store.do(stack_push(), k(0), ()), ())
        self.assertEqual((len(store), store.cost, store.history[3]), (4, 14, (stack_push(), k(0), ((),))))

    def test_undo(self):
        store = Store(stack(), N)
        shapes = []
        for call in ((stack_push(), k(2), (4, 5)), (stack_push(), k(4), (1, 2, 3, 4)), (stack_drop(), k(5)), (stack_drop(), k(0))):
            shapes.append(shape(store))
            store.do(*call)
        while shapes:
            self.assertIsNone(store.undo())
            self.assertEqual(shape(store), shapes.pop())
        for _ in range(2):
            raised(NothingToUndo, store.undo)
            self.assertEqual(shape(store), shape(Store(stack(), N)))
        store.do(stack_push(), k(1), (5,))
        self.assertEqual((store.shown(), len(store)), ((5,), 1))
        store.undo()
        raised(NothingToUndo, store.undo)

    def test_cells(self):
        store = filled()
        self.assertEqual(store.cells(array="buf"), (8, 9, 9, 0, 0, 0))
        for value in STRANGE + ["cap", "len", "view", "", "bu", "given", "out", True, 0, 1, (), ("buf",), stack()]:
            self.assertIs(raised(UnknownName, store.cells, value).name, value)

    def test_shown(self):
        store = filled()
        grow = Operation.read(stack(), "operation grow\npremise all()\nbody\n  let len = len + cap\nview".replace(
            "len + cap", "cap + len"))
        store.do(grow, ())
        # Neither the promise nor the invariant is looked at.
        self.assertEqual(store.fields, (("cap", 6), ("len", 8)))
        raised(NoView, store.shown)
        store.undo()
        self.assertEqual(store.shown(), (8, 9))

    def test_no_invariant_asked(self):
        store = Store(ring(), (("cap", 2),))
        far = Operation.read(ring(), "operation far\nsize k\npremise all()\nbody\n  let head = k\nview")
        store.do(far, k(9))
        self.assertEqual(store.do(far, k(1)), ())
        self.assertEqual((store.fields, len(store)), ((("cap", 2), ("head", 1), ("len", 0)), 2))


class WrongCallsTest(unittest.TestCase):
    def check(self, error, *args):
        store = filled()
        before = shape(store)
        found = raised(error, store.do, *args)
        self.assertIs(type(found), error)
        self.assertEqual(shape(store), before)
        return found

    def test_no_operation(self):
        for value in STRANGE + [True, 1, str(stack_push()), stack(), (), ring_push(), ring_pop(), Operation]:
            for rest in ((k(1), (5,)), (k(1),), (None,), (None, None)):
                self.assertIs(self.check(NotAnOperation, value, *rest).value, value)
        # It is enough that the containers are equal.
        filled().do(Operation.read(Container.read(str(stack())), str(stack_push())), k(1), (5,))

    def test_values(self):
        for value in STRANGE + [True, 1, (), (("len", 1),), (("k", -1),), (("k", True),), (("k", 1), ("len", 1)), [("k", 1)],
                                (("j", 1), ("k", 1))]:
            for inputs in ((), ((5,),), (None, None)):
                self.assertIs(self.check(InvalidValues, stack_push(), value, *inputs).value, value)

    def test_not_allowed(self):
        for number in (3, 10 ** 20):
            values = k(number)
            for inputs in ((), ((5,),), (None,)):
                self.assertIs(self.check(NotAllowed, stack_drop(), values, *inputs).value, values)
        for head in ("input given -k + len", "input given k\ninput more -k + len", "output out -k + len"):
            result = "\nresult out" if "output" in head else ""
            less = Operation.read(stack(), f"operation less\nsize k\n{head}\npremise all()\nbody\nview{result}")
            values = k(3)
            for inputs in ((), (None,), ((), ())):
                self.assertIs(self.check(NotAllowed, less, values, *inputs).value, values)

    def test_inputs(self):
        for inputs, index in [((), None), (((5,), (5,)), None), (((5, 6),), 0), (((),), 0), (([5],), 0), (((True,),), 0),
                              ((("5",),), 0), ((None,), 0), ((5,), 0), (("a",), 0)]:
            self.assertEqual(self.check(InvalidInputs, stack_push(), k(1), *inputs).index, index)
        self.assertIsNone(self.check(InvalidInputs, stack_drop(), k(1), ()).index)

    def test_stopped(self):
        text = "operation bad\nsize k\npremise all()\nbody\n  fill buf[0] (len) 3\n  let len = k\n  resize buf (k - len)\nview"
        bad = Operation.read(stack(), text.replace("resize buf (k - len)", "fill buf[len] (cap) 1"))
        found = self.check(Stopped, bad, k(1))
        self.assertEqual((found.place, found.kind), (2, "range"))
        bad = Operation.read(stack(), text.replace("(k - len)", "(-cap + len)"))
        found = self.check(Stopped, bad, k(1))
        self.assertEqual((found.place, found.kind), (2, "amount"))


class TrialTest(unittest.TestCase):
    def use(self, store):
        store.undo()
        store.do(stack_push(), k(1), (5,))
        store.do(stack_push(), k(9), tuple(range(9)))
        store.undo()
        store.undo()
        store.undo()
        store.do(stack_push(), k(2), (1, 2))

    def test_ends(self):
        store = filled()
        before = shape(store)
        with Trial(store) as same:
            self.assertIs(same, store)
            self.use(store)
            self.assertNotEqual(shape(store), before)
        self.assertEqual(shape(store), before)
        store.undo()
        self.assertEqual(shape(store)[1:4], ((("cap", 6), ("len", 3)), ((7, 8, 9, 0, 0, 0),), 9))

    def test_ends_with_an_error(self):
        for error in (ValueError("x"), KeyError("y"), KeyboardInterrupt(), NotAllowed(1), SystemExit(), StopIteration()):
            store = filled()
            before = shape(store)
            with self.assertRaises(type(error)) as caught:
                with Trial(store):
                    self.use(store)
                    raise error
            self.assertIs(caught.exception, error)
            self.assertEqual(shape(store), before)
        store = filled()
        before = shape(store)
        with self.assertRaises(NotAllowed):
            with Trial(store=store) as same:
                same.undo()
                same.do(stack_drop(), k(30))
        self.assertEqual(shape(store), before)

    def test_ends_early(self):
        store = filled()
        before = shape(store)
        for number in range(3):
            with Trial(store) as same:
                self.use(same)
                if number == 0:
                    continue
                break
        self.assertEqual(shape(store), before)

        def returning():
            with Trial(store) as same:
                self.use(same)
                return same.shown()

        self.assertEqual(returning(), (1, 2))
        self.assertEqual(shape(store), before)

    def test_one_inside_another(self):
        store = filled()
        before = shape(store)
        with Trial(store):
            store.do(stack_push(), k(1), (5,))
            inner = shape(store)
            with Trial(store):
                self.use(store)
            self.assertEqual(shape(store), inner)
            with self.assertRaises(ZeroDivisionError):
                with Trial(store):
                    self.use(store)
                    store.undo()
                    1 // 0
            self.assertEqual(shape(store), inner)
            self.assertEqual(tried(store, lambda same: tried(same, self.use)), None)
            self.assertEqual(shape(store), inner)
        self.assertEqual(shape(store), before)

    def test_begin_of_the_block(self):
        # The block begins behind the creation of the Trial.
        store = filled()
        trial, first = Trial(store), shape(store)
        store.do(stack_push(), k(1), (5,))
        before = shape(store)
        with trial as same:
            same.undo()
            same.undo()
        self.assertEqual(shape(store), before)
        store.undo()
        self.assertEqual(shape(store), first)

    def test_empty_store(self):
        store = Store(stack(), N)
        with Trial(store) as same:
            self.assertIs(same, store)
            same.do(stack_push(), k(1), (5,))
        self.assertEqual((len(store), store.fields), (0, (("cap", 1), ("len", 0))))
        raised(NothingToUndo, store.undo)

    def test_two_stores(self):
        one, other = filled(), filled()
        before = shape(one)
        with Trial(one):
            other.undo()
            changed = shape(other)
            self.use(one)
        self.assertEqual((shape(one), shape(other)), (before, changed))

    def test_tried(self):
        store = filled()
        before = shape(store)
        seen = []

        def deed(same):
            seen.append(same is store)
            self.use(same)
            return same.shown()

        self.assertEqual(tried(store, deed), (1, 2))
        self.assertEqual(tried(deed=deed, store=store), (1, 2))
        self.assertEqual((seen, shape(store)), ([True, True], before))

        def failing(same):
            self.use(same)
            raise LookupError("gone")

        self.assertEqual(str(raised(LookupError, tried, store, failing)), "gone")
        self.assertEqual(shape(store), before)
        self.assertIsNone(tried(store, lambda same: None))
        self.assertIs(tried(store, lambda same: same), store)

    def test_no_store(self):
        called = []
        for value in STRANGE + [True, 1, stack(), (), Store, Trial, Trial(filled())]:
            self.assertIs(raised(NotAStore, Trial, value).value, value)
            self.assertIs(raised(NotAStore, tried, value, called.append).value, value)
            self.assertIs(raised(NotAStore, tried, value, None).value, value)
        self.assertEqual(called, [])


class HistoriesTest(unittest.TestCase):
    """A store does what run does, and right operations do to the view what their promises do to lists."""

    def play(self, container, start, operations, chance, length):
        store, mirror = Store(container, start), []
        for _ in range(length):
            if chance.random() < 0.15 and mirror:
                store.undo()
                mirror.pop()
                continue
            operation = chance.choice(operations)
            fields, cells, cost = store.fields, tuple(store.cells(array) for array, _ in container.arrays), store.cost
            values = k(chance.randint(0, 4))
            inputs = tuple(tuple(chance.randint(1, 99) for _ in range(values[0][1])) for _ in operation.inputs)
            if not is_allowed(operation, fields, values):
                continue
            expected = run(operation, fields, cells, values, *inputs)
            lists = promised(operation, fields, cells, values, *inputs)
            outputs = tried(store, lambda same: same.do(operation, values, *inputs))
            self.assertEqual((outputs, store.fields, store.cost), (expected[2], fields, cost))
            self.assertEqual(store.do(operation, values, *inputs), expected[2])
            self.assertEqual((store.fields, store.cost), (expected[0], cost + expected[3]))
            self.assertEqual(tuple(store.cells(array) for array, _ in container.arrays), expected[1])
            self.assertEqual((store.shown(), outputs), lists)
            mirror.append((operation, values, inputs))
            self.assertEqual((store.history, len(store)), (tuple(mirror), len(mirror)))
            self.assertEqual(repr(store), f"Store({len(container.fields)} fields, {len(mirror)} calls)")

    def test_histories(self):
        chance = random.Random(12)
        for _ in range(25):
            self.play(stack(), (("n", chance.randint(0, 3)),), [stack_push(), stack_drop()], chance, 30)
            self.play(ring(), (("cap", chance.randint(0, 9)),), [ring_push(), ring_pop(), ring_turn()], chance, 40)


if __name__ == "__main__":
    unittest.main()
