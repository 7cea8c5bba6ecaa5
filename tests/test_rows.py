import itertools
import random
import unittest

from blockmoves.conditions import All, Any, Below, Same, Upto, read_condition
from blockmoves.errors import InvalidMoves, InvalidPremise, TargetsMeet
from blockmoves.forms import Form
from blockmoves.rows import ring_of, row_of
from blockmoves.statements import Apart, Copy, Down, Fill, Let, Reverse, Swap, Up
from samples import STRANGE, raised
from simulator import holds, worth

A, B, C, ZERO = Form(a=1), Form(b=1), Form(c=1), Form()


def copy(text):
    """A Copy of a text such as `x 0 y a+b c`."""
    target, to, source, start, amount = text.split(" ")
    return Copy(target, *[Form.read(part.replace("+", " + ").replace("-", " - ")) if name else part
                          for part, name in ((to, 1), (source, 0), (start, 1), (amount, 1))])


def moves_of(*texts):
    return tuple(copy(text) for text in texts)


def blocks_at(moves, premise, table):
    """The moves with numbers, or None if they are not meant with these values."""
    if premise is not None and not holds(premise, table):
        return None
    found = [(move.target, worth(move.to, table), move.source, worth(move.start, table), worth(move.amount, table))
             for move in moves]
    return found if all(number >= 0 for block in found for number in (block[1], block[3], block[4])) else None


def meet(one, at, other, start, many, more):
    return one == other and bool(set(range(at, at + many)) & set(range(start, start + more)))


def done_at_once(blocks):
    cells = {}
    for target, to, source, start, amount in blocks:
        for at in range(amount):
            cells[target, to + at] = source, start + at
    return {place: cell for place, cell in cells.items() if place != cell}


def done_in_a_row(blocks, order):
    cells = {}
    for index in order:
        target, to, source, start, amount = blocks[index]
        taken = [cells.get((source, start + at), (source, start + at)) for at in range(amount)]
        for at, cell in enumerate(taken):
            cells[target, to + at] = cell
    return {place: cell for place, cell in cells.items() if place != cell}


class RowTest(unittest.TestCase):
    def check(self, moves, premise=None, top=5):
        """What is told, against all small values; returns the row and the ring, or the pair that meets."""
        symbols = sorted({symbol for move in moves for form in move.forms for symbol in form.symbols}
                         | set(premise.symbols if premise else ()))
        tables = [dict(zip(symbols, numbers)) for numbers in itertools.product(range(top), repeat=len(symbols))]
        meant = [blocks for blocks in (blocks_at(moves, premise, table) for table in tables) if blocks is not None]
        many = range(len(moves))
        pairs = [(first, second) for first in many for second in many[first + 1:] if any(
            meet(blocks[first][0], blocks[first][1], *blocks[second][:2], blocks[first][4], blocks[second][4]) for blocks in meant)]
        try:
            row, ring = row_of(moves, premise), ring_of(moves, premise)
        except TargetsMeet as error:
            again = raised(TargetsMeet, ring_of, moves, premise)
            pair = error.first, error.second
            self.assertEqual((again.first, again.second), pair)
            self.assertTrue(not pairs or pair <= pairs[0], (pair, pairs))
            return pair
        self.assertEqual(pairs, [])
        good = [order for order in itertools.permutations(many) if all(
            done_in_a_row(blocks, order) == done_at_once(blocks) for blocks in meant)]
        if row is not None:
            self.assertIsNone(ring)
            self.assertIn(row, good)
        else:
            self.assertIs(type(ring), tuple)
            self.assertTrue(len(ring) >= 2 and len(set(ring)) == len(ring) and set(ring) <= set(many))
            for one, other in zip(ring, ring[1:] + ring[:1]):
                self.behind(moves, one, other, meant)
        self.met = row == (good[0] if good else None)
        return row, ring

    def behind(self, moves, one, other, meant):
        """Some values show that a move must come behind the other one."""
        if not any(meet(blocks[one][0], blocks[one][1], blocks[other][2], blocks[other][3], blocks[one][4], blocks[other][4])
                   and blocks[one][:2] != blocks[one][2:4] for blocks in meant):
            self.unseen = True

    def test_example(self):
        slide = (Copy("x", ZERO, "x", A, B), Copy("x", B, "x", A + B, A))
        cross = (Copy("x", ZERO, "x", A, A), Copy("x", A, "x", ZERO, A))
        self.assertEqual([row_of(slide, None), row_of(slide[::-1], None), row_of(cross, None), sorted(ring_of(cross, None))],
                         [(0, 1), (1, 0), None, [0, 1]])

    def test_rows(self):
        for texts, premise, row in [
            (["x 0 x a a"], None, (0,)), (["x 0 x 0 a"], None, (0,)), (["x a x 0 b"], None, (0,)), (["x 0 y 0 a"], None, (0,)),
            # One behind the other, however they stand.
            (["x 0 x a a", "x a x 2*a a", "x 2*a x 3*a a"], None, (0, 1, 2)), (["x a x 0 a", "x 2*a x a a", "x 3*a x 2*a a"], None, (2, 1, 0)),
            (["x 2*a x 3*a a", "x 0 x a a", "x a x 2*a a"], None, (1, 2, 0)),
            # None has to come behind another one: the least order.
            (["x 0 y 0 a", "x a y 0 b"], None, (0, 1)), (["x 0 y 0 a", "z 0 y a a", "w 0 z a a"], "a = 0", (0, 1, 2)),
            (["y 0 x 0 a", "x 0 z 0 a"], None, (0, 1)), (["x 0 z 0 a", "y 0 x 0 a"], None, (1, 0)),
            # Nothing is copied, or what is copied is not touched.
            (["x 0 x a 0", "x a x 0 0"], None, (0, 1)), (["x 0 x a a", "x a x 0 a"], "a = 0", (0, 1)),
            (["x 0 x a a", "x a x 0 a"], "any()", (0, 1)), (["x 0 x a b", "x a x 0 c"], "all(b = 0, a < c)", (0, 1)),
            # Source and target are one block: it may stand anywhere.
            (["x 0 x 0 a", "y 0 x 0 a"], None, (0, 1)), (["y 0 x 0 a", "x 0 x 0 a"], None, (0, 1)), (["x b x 0 a", "y 0 x b a"], "b = 0", (0, 1)),
            (["x b x 0 a", "y 0 x b a"], None, (1, 0)), (["x b x b a", "y 0 x b a"], None, (0, 1)),
            # Values below 0 of a start are not meant.
            (["x a-b y 0 b", "y c x 0 a"], "b < a", None), (["x a-b y 0 b", "y c x 0 a"], "a < b", (0, 1)),
            (["x 0 x b a", "y 0 x c a"], None, (1, 0)), (["x 0 x b a", "y 0 x c a"], "a <= c", (0, 1)),
            (["y 0 x 0 a", "z 0 y 0 a", "w 0 z 0 a", "v 0 w 0 a", "u 0 v 0 a"], None, (4, 3, 2, 1, 0)),
        ]:
            moves = moves_of(*texts)
            found = self.check(moves, premise and read_condition(premise))
            if row is not None:
                self.assertEqual(found, (row, None), (texts, premise))
                self.assertTrue(self.met, (texts, premise))

    def test_rings(self):
        for texts, premise, ring in [
            (["x 0 x a a", "x a x 0 a"], None, {0, 1}), (["x 0 x a a", "x a x 2*a a", "x 2*a x 0 a"], None, {0, 1, 2}),
            (["y 0 x 0 a", "x 0 x a a", "x a x 0 a"], None, {1, 2}), (["x 0 x a a", "x a x 0 a", "x 2*a y 0 a"], "0 < a", {0, 1}),
            (["x 0 y 0 a", "y 0 x 0 a"], None, {0, 1}), (["x 0 y 0 a", "y 0 z 0 a", "z 0 x 0 a"], None, {0, 1, 2}),
            (["x 0 y b a", "y 0 x b a"], None, {0, 1}), (["x 0 x b a", "x a x 0 b"], None, {0, 1}),
            (["v 0 w 0 a", "w 0 x 0 a", "x 0 y 0 a", "y 0 z 0 a", "z 0 v 0 a"], None, {0, 1, 2, 3, 4}),
            (["v 0 w 0 a", "w 0 x 0 a", "x 0 y 0 a", "y 0 z 0 a", "z 0 x 0 a"], None, {2, 3, 4}),
        ]:
            moves = moves_of(*texts)
            self.unseen = False
            row, found = self.check(moves, premise and read_condition(premise))
            self.assertIsNone(row)
            self.assertEqual(set(found), ring)
            self.assertFalse(self.unseen)
            self.assertEqual(ring_of(moves, premise and read_condition(premise)), found)

    def test_targets(self):
        for texts, premise, pair in [
            (["x 0 y 0 a", "x 0 z 0 a"], None, (0, 1)), (["x 0 y 0 a", "x b z 0 a"], None, (0, 1)), (["x 0 y 0 a", "x a z 0 a"], None, None),
            (["x 0 y 0 a", "x b z 0 a"], "a <= b", None), (["x 0 y 0 a", "y 0 z 0 a", "x b z 0 a", "y 0 z 0 b"], None, (0, 2)),
            (["x 0 y 0 a", "y 0 z 0 a", "x b z 0 a", "y 0 z 0 b"], "a <= b", (1, 3)), (["x 0 x 0 a", "x 0 x 0 a"], None, (0, 1)),
            (["x 0 x 0 a", "x 0 x 0 a"], "a = 0", None), (["x 0 y 0 a", "x 0 y 0 b"], "any(a = 0, b = 0)", None),
            (["x a-b y 0 c", "x 0 y 0 c"], "a < b", None), (["x a-b y 0 c", "x 0 y 0 c"], None, (0, 1)),
            (["w 0 y 0 a", "v 0 z 0 a", "u 0 z 0 a", "x 0 y 0 a", "x b z 0 c"], None, (3, 4)),
        ]:
            found = self.check(moves_of(*texts), premise and read_condition(premise))
            if pair is not None:
                self.assertEqual(found, pair, (texts, premise))
            else:
                self.assertIsNotNone(found[0] or found[1])

    def test_random_moves(self):
        chance = random.Random(61)

        def form():
            if chance.random() < 0.3:
                return ZERO
            return Form(**{symbol: chance.choice([0, 1, 1, 2, -1]) for symbol in chance.sample("abc", chance.randint(1, 2))})

        met = {}
        for _ in range(250):
            many = chance.randint(1, 4)
            order = chance.sample(range(many), many)
            amounts, starts, targets, total = [A, B, C, A][:many], [], {}, ZERO
            for amount in amounts:
                starts.append(total)
                total = total + amount
            total = ZERO
            for index in order:
                targets[index], total = total, total + amounts[index]
            moves = tuple(Copy("x", targets[index], chance.choice("xxxy"), starts[index] if chance.random() < 0.8 else form(),
                               amounts[index]) for index in range(many))
            if chance.random() < 0.2:
                moves = tuple(Copy(chance.choice("xy"), form(), chance.choice("xy"), form(), chance.choice(amounts))
                              for _ in range(chance.randint(1, 3)))
            premise = chance.choice([None, None, Below(form(), form()), Same(A, B), All(Upto(A, B), Upto(B, C)),
                                     Any(Below(form(), form()), Same(form(), form()))])
            self.met, self.unseen = False, False
            found = self.check(moves, premise, 4)
            kind = "pair" if type(found[0]) is int else "row" if found[0] else "ring"
            met.setdefault(kind, []).append(self.met)
        self.assertEqual(set(met), {"pair", "row", "ring"})
        self.assertGreater(sum(met["row"]), len(met["row"]) * 0.95)
        self.assertGreater(sum(met["ring"]), len(met["ring"]) * 0.9)

    def test_names_of_parameters(self):
        moves = moves_of("x 0 x a a", "x a x 2*a a")
        self.assertEqual(row_of(premise=None, moves=moves), (0, 1))
        self.assertIsNone(ring_of(premise=All(), moves=moves))


class WrongArgumentsTest(unittest.TestCase):
    def test_moves(self):
        good = copy("x 0 x a a")
        wrong = [Up("x", ZERO, "x", A, A), Down("x", ZERO, "x", A, A), Apart("x", ZERO, "x", A, A), Reverse("x", ZERO, A),
                 Swap("x", ZERO, "x", A, A), Fill("x", ZERO, A, 0), Let("x", A)]
        for function in (row_of, ring_of):
            for value in STRANGE + [True, 1, good, [good], "copy", (), (good,) * 6, (None,) * 6]:
                self.assertIsNone(raised(InvalidMoves, function, value, None).index)
                self.assertIsNone(raised(InvalidMoves, function, value, 5).index)
            for value in STRANGE + wrong + [True, 1, "copy x[0] x[a] (a)", (good,)]:
                self.assertEqual(raised(InvalidMoves, function, (value,), 5).index, 0)
                self.assertEqual(raised(InvalidMoves, function, (good, good, value, None), 5).index, 2)

    def test_premise(self):
        moves = moves_of("x 0 y a a", "y b x 0 c")
        for function in (row_of, ring_of):
            for value in STRANGE[1:] + [True, 1, "all()", ZERO, ()]:
                self.assertIs(raised(InvalidPremise, function, moves, value).value, value)
            for text in ("d = 0", "d < e", "d = e", "a = b"):
                premise = read_condition(text)
                self.assertIsInstance(function(moves, premise), (tuple, type(None)))
            for text in ("all(d = 0, e < f)", "@ < a", "d = e + f", "@ = 0"):
                premise = read_condition(text)
                self.assertIs(raised(InvalidPremise, function, moves, premise).value, premise)
            # The moves alone can have too many symbols, or `@`.
            six = moves_of("x a y b c", "z d z e f")
            self.assertIsNone(raised(InvalidPremise, function, six, None).value)
            self.assertIsNone(raised(InvalidPremise, function, moves_of("x @ y 0 a"), None).value)
            premise = All()
            self.assertIs(raised(InvalidPremise, function, six, premise).value, premise)
            five = moves_of("x a y b c", "z d z e a")
            self.assertEqual(row_of(five, None), (0, 1))
            self.assertEqual(row_of(moves_of("x a x b c"), read_condition("d < e")), (0,))

    def test_targets_come_last(self):
        moves = moves_of("x 0 y 0 a", "x 0 z 0 a")
        for function in (row_of, ring_of):
            error = raised(TargetsMeet, function, moves, None)
            self.assertEqual((error.first, error.second), (0, 1))
            raised(InvalidPremise, function, moves, 5)


if __name__ == "__main__":
    unittest.main()
