"""Runs of bodies, views and promises, with strips in the place of cells (points 10 to 13 of the document)."""

from blockmoves.errors import Stopped
from blockmoves.forms import worth_of
from blockmoves.statements import Copy, Fill, If, Let, Resize, Reverse, is_stopped, size_of
from blockmoves.strips import cut, letter_strip, row_strip, strip_length, turned


class Machine:
    """A state and the buffers of a call while the body runs.

    `table` has the values of the fields and sizes, `strips` what stands in each
    array, input and output, and `cost` the number of cells written so far.
    """

    def __init__(self, operation, values):
        self.operation = operation
        self.table = dict(values)
        self.strips = first_strips(operation.container, self.table)
        self.cost = 0
        for name, length in operation.inputs:
            self.strips[name] = row_strip(name, self.now(length))
        for name, length in operation.outputs:
            self.strips[name] = letter_strip(0, self.now(length))

    def now(self, form):
        """The present value of a form."""
        return worth_of(form, self.table)

    def length_of(self, array):
        """The length of an array, input or output."""
        return strip_length(self.strips[array])

    def perform(self, statements, place):
        """Runs the statements, the first of which stands at the place."""
        for statement in statements:
            if not isinstance(statement, If):
                self.check(statement, place)
                self.cost = self.cost + statement.written(self)
                self.change(statement)
            elif statement.condition.is_met(self.table):
                self.perform(statement.then, place + 1)
            else:
                self.perform(statement.otherwise, place + 1 + size_of(statement.then))
            place = place + statement.size

    def check(self, statement, place):
        """Raises Stopped if the statement has a stop."""
        for kind, comparisons in statement.stops(self):
            if is_stopped(kind, comparisons):
                raise Stopped(place, kind)

    def change(self, statement):
        """Does what the statement does, which has no stop."""
        if isinstance(statement, Let):
            self.table[statement.field] = self.now(statement.form)
        elif isinstance(statement, Resize):
            self.resize(statement.array, self.now(statement.length))
        elif isinstance(statement, Copy):
            self.put(statement.target, statement.to, self.taken(statement.source, statement.start, statement.amount))
        elif isinstance(statement, Reverse):
            block = self.taken(statement.array, statement.start, statement.amount)
            self.put(statement.array, statement.start, turned(block))
        elif isinstance(statement, Fill):
            self.put(statement.array, statement.start, letter_strip(statement.letter, self.now(statement.amount)))
        else:
            self.swap(statement)

    def swap(self, statement):
        first = self.taken(statement.first, statement.at, statement.amount)
        second = self.taken(statement.second, statement.start, statement.amount)
        self.put(statement.first, statement.at, second)
        self.put(statement.second, statement.start, first)

    def resize(self, array, length):
        new = letter_strip(0, length - self.length_of(array))
        self.strips[array] = cut(self.strips[array], 0, length) + new
        self.table[dict(self.operation.container.arrays)[array]] = length

    def taken(self, array, start, amount):
        """What stands in a block."""
        first = self.now(start)
        return cut(self.strips[array], first, first + self.now(amount))

    def put(self, array, start, block):
        first = self.now(start)
        behind = first + strip_length(block)
        row = self.strips[array]
        self.strips[array] = cut(row, 0, first) + block + cut(row, behind, strip_length(row))


def first_strips(container, table):
    """What stands in each array before a call."""
    return {array: row_strip(array, table[length]) for array, length in container.arrays}


def view_in(container, table, strips):
    """What the view of the state is, or None."""
    for condition, stretches in container.cases:
        if condition.is_met(table):
            return _joined([_part_in(stretch, strips, table) for stretch in stretches])
    return None


def promise_in(operation, table, strips):
    """What the pieces of the view and of each output make of the state and the inputs.

    None in the place of those that are broken. The state must have a view.
    """
    lists = {**strips, "view": view_in(operation.container, table, strips)}
    return [_joined([_piece_in(piece, lists, table) for piece in pieces])
            for pieces in (operation.view,) + operation.results]


def may_call(operation, table):
    """Whether a call with these values of the unknowns is allowed."""
    container = operation.container
    if not container.invariant.is_met(table) or not operation.premise.is_met(table):
        return False
    return has_buffers(operation, table) and view_in(container, table, first_strips(container, table)) is not None


def has_buffers(operation, table):
    """Whether no length of an input or output is below 0."""
    return all([worth_of(length, table) >= 0 for _, length in operation.inputs + operation.outputs])


def _piece_in(piece, lists, table):
    if piece[0] == "fill":
        _, letter, amount = piece
        many = worth_of(amount, table)
        return None if many < 0 else letter_strip(letter, many)
    return _part_in(piece[1:], lists, table)


def _part_in(stretch, lists, table):
    """What a stretch or part is; None if it does not lie in its array or list."""
    name, first, last, back = stretch
    low, high = worth_of(first, table), worth_of(last, table)
    if not 0 <= low <= high <= strip_length(lists[name]):
        return None
    part = cut(lists[name], low, high)
    return turned(part) if back else part


def _joined(parts):
    """The strips one behind the other; None if one of them is None."""
    joined = ()
    for part in parts:
        if part is None:
            return None
        joined = joined + part
    return joined
