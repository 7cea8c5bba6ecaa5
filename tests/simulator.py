"""Runs, views and problems once more: cell by cell and by the words of the document, for the tests."""

from blockmoves.containers import Container
from blockmoves.forms import Form
from blockmoves.operations import Operation


class Halt(Exception):
    def __init__(self, place, kind):
        super().__init__(place, kind)
        self.place, self.kind = place, kind


def worth(form, table):
    return sum(form.factor(symbol) * table[symbol] for symbol in form.symbols)


def holds(condition, table):
    return condition(tuple(sorted((symbol, table[symbol]) for symbol in condition.symbols)))


class Simulation:
    """Each cell of `cells` is read and written by itself."""

    def __init__(self, operation, fields, cells, values, inputs):
        self.operation = operation
        self.table = dict(fields) | dict(values)
        self.lengths = {array: field for array, field in operation.container.arrays}
        self.rows = {array: list(row) for array, row in zip(self.lengths, cells)}
        self.rows |= {name: list(row) for (name, _), row in zip(operation.inputs, inputs)}
        self.rows |= {name: [0] * worth(length, self.table) for name, length in operation.outputs}
        self.cost = 0
        self.place = -1
        self.met = []

    def write(self, array, at, cell):
        self.rows[array][at] = cell
        self.cost += 1

    def body(self, statements):
        for statement in statements:
            self.place += 1
            place = self.place
            self.met.append(place)
            if statement.WORD == "if":
                if holds(statement.condition, self.table):
                    self.body(statement.then)
                    self.skip(statement.otherwise)
                else:
                    self.skip(statement.then)
                    self.body(statement.otherwise)
            else:
                getattr(self, "do_" + statement.WORD)(statement, place)

    def skip(self, statements):
        for statement in statements:
            self.place += 1
            if statement.WORD == "if":
                self.skip(statement.then)
                self.skip(statement.otherwise)

    def do_let(self, statement, place):
        value = worth(statement.form, self.table)
        if value < 0:
            raise Halt(place, "field")
        self.table[statement.field] = value

    def block(self, array, start, amount, place):
        start, amount = worth(start, self.table), worth(amount, self.table)
        if amount < 0:
            raise Halt(place, "amount")
        if start < 0 or start + amount > len(self.rows[array]):
            raise Halt(place, "range")
        return list(range(start, start + amount))

    def blocks(self, one, at, other, start, amount, place):
        if worth(amount, self.table) < 0:
            raise Halt(place, "amount")
        return self.block(one, at, amount, place), self.block(other, start, amount, place)

    def moving(self, statement, place):
        return self.blocks(statement.target, statement.to, statement.source, statement.start, statement.amount, place)

    def do_copy(self, statement, place):
        to, start = self.moving(statement, place)
        old = [self.rows[statement.source][at] for at in start]
        for at, cell in zip(to, old):
            self.write(statement.target, at, cell)

    def stepwise(self, statement, pairs, place):
        """Copies pair by pair; a cell that was written must not be read behind that, unless by itself."""
        written = set()
        if statement.target == statement.source:
            for at, source in pairs:
                if source in written:
                    raise Halt(place, "clobber")
                written.add(at)
        for at, source in pairs:
            self.write(statement.target, at, self.rows[statement.source][source])

    def do_up(self, statement, place):
        to, start = self.moving(statement, place)
        self.stepwise(statement, list(zip(to, start)), place)

    def do_down(self, statement, place):
        to, start = self.moving(statement, place)
        self.stepwise(statement, list(zip(to, start))[::-1], place)

    def do_apart(self, statement, place):
        to, start = self.moving(statement, place)
        if statement.target == statement.source and set(to) & set(start):
            raise Halt(place, "overlap")
        self.stepwise(statement, list(zip(to, start)), place)

    def do_reverse(self, statement, place):
        block = self.block(statement.array, statement.start, statement.amount, place)
        old = [self.rows[statement.array][at] for at in block]
        for at in block:
            self.write(statement.array, at, old.pop())

    def do_swap(self, statement, place):
        one, other = self.blocks(statement.first, statement.at, statement.second, statement.start, statement.amount, place)
        if statement.first == statement.second and set(one) & set(other):
            raise Halt(place, "overlap")
        for at, there in zip(one, other):
            first, second = self.rows[statement.first][at], self.rows[statement.second][there]
            self.write(statement.first, at, second)
            self.write(statement.second, there, first)

    def do_fill(self, statement, place):
        for at in self.block(statement.array, statement.start, statement.amount, place):
            self.write(statement.array, at, statement.letter)

    def do_resize(self, statement, place):
        length = worth(statement.length, self.table)
        if length < 0:
            raise Halt(place, "amount")
        row = self.rows[statement.array]
        self.rows[statement.array] = [row[at] if at < len(row) else 0 for at in range(length)]
        self.table[self.lengths[statement.array]] = length
        self.cost += length

    def state(self):
        fields = tuple((field, self.table[field]) for field in self.operation.container.fields)
        return fields, tuple(tuple(self.rows[array]) for array in self.lengths)

    def outputs(self):
        return tuple(tuple(self.rows[name]) for name, _ in self.operation.outputs)


def simulated(operation, fields, cells, values, *inputs):
    """What run returns, or raises Halt."""
    simulation = Simulation(operation, fields, cells, values, inputs)
    simulation.body(operation.body)
    return *simulation.state(), simulation.outputs(), simulation.cost


def seen(container, fields, cells):
    """The view, or None."""
    table, rows = dict(fields), {array: row for (array, _), row in zip(container.arrays, cells)}
    for condition, stretches in container.cases:
        if holds(condition, table):
            view = []
            for array, first, last, turned in stretches:
                first, last = worth(first, table), worth(last, table)
                if first < 0 or last < first or last > len(rows[array]):
                    return None
                part = [rows[array][at] for at in range(first, last)]
                view += reversed(part) if turned else part
            return tuple(view)
    return None


def made_of(pieces, lists, table):
    """The elements of the pieces, or None if they are broken."""
    made = []
    for piece in pieces:
        if piece[0] == "fill":
            if worth(piece[2], table) < 0:
                return None
            made += [piece[1] for _ in range(worth(piece[2], table))]
        else:
            first, last = worth(piece[2], table), worth(piece[3], table)
            if first < 0 or last < first or last > len(lists[piece[1]]):
                return None
            part = [lists[piece[1]][at] for at in range(first, last)]
            made += reversed(part) if piece[4] else part
    return tuple(made)


def call_parts(operation, fields, values):
    """Cells and inputs with unlike integers, none of them a letter; None if the call is not allowed."""
    container, table = operation.container, dict(fields) | dict(values)
    if not holds(container.invariant, table) or not holds(operation.premise, table):
        return None
    if any(worth(length, table) < 0 for _, length in operation.inputs + operation.outputs):
        return None
    cells = tuple(tuple(10**6 * (number + 1) + at for at in range(table[length]))
                  for number, (_, length) in enumerate(container.arrays))
    inputs = tuple(tuple(10**6 * (number + 7) + at for at in range(worth(length, table)))
                   for number, (_, length) in enumerate(operation.inputs))
    return None if seen(container, fields, cells) is None else (cells, inputs)


def problems_at(operation, fields, values):
    """The set of all problems of the allowed call with these fields and values (point 14)."""
    parts = call_parts(operation, fields, values)
    if parts is None:
        return set()
    cells, inputs = parts
    container, table, last = operation.container, dict(fields) | dict(values), operation.places
    try:
        after, cells_after, outputs, _ = simulated(operation, fields, cells, values, *inputs)
    except Halt as halt:
        return {(halt.place, halt.kind)}
    found = set()
    lists = {"view": seen(container, fields, cells)} | {name: row for (name, _), row in zip(operation.inputs, inputs)}
    if not holds(container.invariant, dict(after)):
        found.add((last, "invariant"))
    view, made = seen(container, after, cells_after), made_of(operation.view, lists, table)
    if view is None:
        found.add((last, "view"))
    if made is None:
        found.add((last, "promise"))
    if view is not None and made is not None and view != made:
        found.add((last, "cell" if len(view) == len(made) else "length"))
    for row, pieces in zip(outputs, operation.results):
        made = made_of(pieces, lists, table)
        if made is None:
            found.add((last, "promise"))
        elif made != row:
            found.add((last, "result"))
    return found


def small_values(symbols, top):
    """All values of the symbols with integers below this one."""
    found = [()]
    for symbol in symbols:
        found = [values + ((symbol, number),) for values in found for number in range(top)]
    return found


def split_values(operation, values):
    """The fields and the sizes of values of the unknowns."""
    fields = tuple(pair for pair in values if pair[0] in operation.container.fields)
    return fields, tuple(pair for pair in values if pair[0] in operation.sizes)


def mask_of(fact, values, top):
    """A bit for each middle of a cell below the number: whether the fact holds there for the values."""
    form, strict = fact
    rest = sum(form.factor(symbol) * 2 * number for symbol, number in values) - (1 if strict else 0)
    slope = form.factor("@")
    if slope == 0:
        return (1 << top) - 1 if rest >= 0 else 0
    return sum(1 << at for at in range(top) if rest + slope * (2 * at + 1) >= 0)


def facts_hold(rows, values, top):
    """Whether all facts of some row hold for the values and, where they name `@`, for the middle of some cell."""
    masks = {}
    for facts in rows:
        both = (1 << top) - 1
        for fact in facts:
            if fact not in masks:
                masks[fact] = mask_of((Form.read(fact[0]), fact[1]), values, top)
            both &= masks[fact]
            if not both:
                break
        if both:
            return True
    return False


LISTS = """array buf cap
array bag wide
field len
parameters n
premise all()
begin cap = n
begin len = 0
begin wide = n
invariant {}
case {}
{}case {}
{}"""


def random_container(chance):
    """A container with two arrays, three fields and a view of some stretches."""
    forms = ["0", "len", "cap", "wide", "cap - len", "len - wide", "2*len"]

    def stretches():
        rows = []
        for _ in range(chance.randint(0, 2)):
            array = chance.choice(["buf", "bag"])
            first, last = chance.choice(["0", "0", "len"]), chance.choice(forms)
            rows.append(f"  {array}[{first} .. {last}]{chance.choice(['', '', ' reversed'])}\n")
        return "".join(rows)

    invariant = chance.choice(["all()", "len <= cap", "all(len <= cap, len <= wide)", "any(len <= cap, wide = len)"])
    condition = chance.choice(["len <= wide", "len = cap", "all()", "any(cap < len, wide <= cap)", "not(all(len < cap, 0 < len))"])
    last = chance.choice(["all()", "all()", "len <= cap", "any()"])
    return Container.read(LISTS.format(invariant, condition, stretches(), last, stretches())[:-1])


def random_operation(chance, container):
    """An operation with a size, an input and an output, whose parts are drawn by chance."""
    forms = ["0", "0", "k", "len", "cap", "wide", "cap - len", "cap - k", "k + len", "-k + len", "2*k"]
    arrays, written = ["buf", "bag"], ["buf", "buf", "bag", "out"]

    def form():
        return chance.choice(forms)

    def condition():
        return chance.choice([f"{form()} < {form()}", f"{form()} <= {form()}", f"{form()} = {form()}",
                              f"any({form()} < {form()}, {form()} <= {form()})", f"not({form()} = {form()})"])

    def statement(moves):
        word = chance.choice(["let", "copy", "up", "down", "apart", "reverse", "swap", "fill", "resize"] if moves else ["let"])
        one, other = chance.choice(written), chance.choice(written)
        if word in ("up", "down", "apart") and chance.random() < 0.5:
            to, start = chance.choice([("0", "k"), ("k", "0"), ("len", "0"), ("k", "k"), ("k", "2*k")])
            return f"{word} buf[{to}] buf[{start}] ({chance.choice(['len', 'cap - k', '-k + len', 'cap - len'])})"
        if word in ("copy", "up", "down", "apart"):
            return f"{word} {one}[{form()}] {chance.choice([one, one, one, other, 'given'])}[{form()}] ({form()})"
        return {"let": f"let len = {form()}", "reverse": f"reverse {one}[{form()}] ({form()})",
                "swap": f"swap {one}[{form()}] {chance.choice([one, other])}[{form()}] ({form()})",
                "fill": f"fill {one}[{form()}] ({form()}) {chance.randint(-1, 2)}",
                "resize": f"resize {chance.choice(arrays)} ({form()})"}[word]

    def piece():
        if chance.random() < 0.2:
            return f"  fill {chance.randint(-1, 2)} ({form()})"
        return f"  {chance.choice(['view', 'view', 'given'])}[{form()} .. {form()}]{chance.choice(['', '', ' reversed'])}"

    rows = []
    for _ in range(chance.randint(0, 3)):
        if chance.random() < 0.3:
            rows += [f"  if {condition()}", "    " + statement(True)]
            if chance.random() < 0.5:
                rows += ["  else", "    " + statement(True)]
            rows.append("  end")
        else:
            rows.append("  " + statement(len(rows) < 2))
    text = ["operation some", "size k", f"input given {form()}", f"output out {form()}",
            f"premise {chance.choice(['all()', condition(), 'k <= len'])}", "body"] + rows + ["view"]
    text += [piece() for _ in range(chance.randint(0, 2))] + ["result out"] + [piece() for _ in range(chance.randint(0, 2))]
    return Operation.read(container, "\n".join(text))


def differences_at(first, second, fields, values, by):
    """The set of the kinds in which calls of two operations differ (point 20), in the order of a joint walk."""
    parts = call_parts(first, fields, values)
    if parts is None or call_parts(second, fields, values) is None:
        return set()
    cells, inputs = parts
    ends = []
    for kind, operation in (("first", first), ("second", second)):
        try:
            ends.append(simulated(operation, fields, cells, values, *inputs))
        except Halt:
            return {kind}
    (fields1, cells1, outputs1, _), (fields2, cells2, outputs2, _) = ends
    found = {"result"} if outputs1 != outputs2 else set()
    if by == "cells":
        found |= {"field"} if fields1 != fields2 else set()
        return found | ({"array"} if any(len(one) == len(other) and one != other for one, other in zip(cells1, cells2)) else set())
    view1, view2 = seen(first.container, fields1, cells1), seen(first.container, fields2, cells2)
    if view1 is None or view2 is None:
        return found | {"view"}
    if view1 != view2:
        found.add("cell" if len(view1) == len(view2) else "length")
    return found


def ends_at(operation, fields, values):
    """The fields and the cost behind an allowed call that does not stop, or None."""
    parts = call_parts(operation, fields, values)
    if parts is None:
        return None
    try:
        after, _, _, cost = simulated(operation, fields, parts[0], values, *parts[1])
    except Halt:
        return None
    return after, cost
