"""Runs of operations on real cells (points 10 to 13 of the document)."""

from blockmoves.containers import check_container
from blockmoves.errors import InvalidInputs, InvalidState, InvalidValues, NotAllowed, Stopped
from blockmoves.forms import is_integer, is_values, worth_of
from blockmoves.operations import check_operation
from blockmoves.statements import Copy, Fill, If, Let, Resize, Reverse, is_stopped, size_of


class Machine:
    """A state and the buffers of a call while the body runs.

    `table` has the values of the fields and sizes, `rows` the cells of each
    array, input and output, and `cost` the number of cells written so far.
    """

    def __init__(self, operation, fields, cells, values, inputs):
        self.operation = operation
        self.table = dict(fields + values)
        self.rows = {}
        self.cost = 0
        for (array, _), row in zip(operation.container.arrays, cells):
            self.rows[array] = list(row)
        for (name, _), row in zip(operation.inputs, inputs):
            self.rows[name] = list(row)
        for name, length in operation.outputs:
            self.rows[name] = [0] * self.now(length)

    def now(self, form):
        """The present value of a form."""
        return worth_of(form, self.table)

    def length_of(self, array):
        """The length of an array, input or output."""
        return len(self.rows[array])

    def perform(self, statements, place):
        """Runs the statements, the first of which stands at the place."""
        for statement in statements:
            if not isinstance(statement, If):
                self.check(statement, place)
                self.cost = self.cost + statement.written(self)
                self.change(statement)
            elif statement.condition.is_met(self.table):
                self.perform(statement.then, place + 1)
            else:
                self.perform(statement.otherwise, place + 1 + size_of(statement.then))
            place = place + statement.size

    def check(self, statement, place):
        """Raises Stopped if the statement has a stop."""
        for kind, comparisons in statement.stops(self):
            if is_stopped(kind, comparisons):
                raise Stopped(place, kind)

    def change(self, statement):
        """Does what the statement does, which has no stop."""
        if isinstance(statement, Let):
            self.table[statement.field] = self.now(statement.form)
        elif isinstance(statement, Resize):
            self.resize(statement.array, self.now(statement.length))
        elif isinstance(statement, Copy):
            self.put(statement.target, statement.to, self.taken(statement.source, statement.start, statement.amount))
        elif isinstance(statement, Reverse):
            cells = self.taken(statement.array, statement.start, statement.amount)
            self.put(statement.array, statement.start, cells[::-1])
        elif isinstance(statement, Fill):
            self.put(statement.array, statement.start, [statement.letter] * self.now(statement.amount))
        else:
            self.swap(statement)

    def swap(self, statement):
        first = self.taken(statement.first, statement.at, statement.amount)
        second = self.taken(statement.second, statement.start, statement.amount)
        self.put(statement.first, statement.at, second)
        self.put(statement.second, statement.start, first)

    def resize(self, array, length):
        row = self.rows[array]
        self.rows[array] = row[:length] + [0] * (length - len(row))
        for name, field in self.operation.container.arrays:
            if name == array:
                self.table[field] = length

    def taken(self, array, start, amount):
        """A copy of the cells of a block."""
        first = self.now(start)
        return self.rows[array][first:first + self.now(amount)]

    def put(self, array, start, cells):
        first = self.now(start)
        self.rows[array][first:first + len(cells)] = cells

    def outcome(self):
        """The fields, cells, outputs and cost."""
        container = self.operation.container
        fields = tuple([(field, self.table[field]) for field in container.fields])
        cells = tuple([tuple(self.rows[array]) for array, _ in container.arrays])
        outputs = tuple([tuple(self.rows[name]) for name, _ in self.operation.outputs])
        return fields, cells, outputs, self.cost


def run(operation, fields, cells, values, *inputs):
    """The fields, cells and outputs after the body, and the cost; Stopped if it stops."""
    _check_all(operation, fields, cells, values, inputs)
    return outcome_of(operation, fields, cells, values, inputs)


def outcome_of(operation, fields, cells, values, inputs):
    """What run returns, for arguments that are as required."""
    machine = Machine(operation, fields, cells, values, inputs)
    machine.perform(operation.body, 0)
    return machine.outcome()


def view_of(container, fields, cells):
    """The view of the state, or None."""
    check_container(container)
    check_values(fields, container.fields)
    check_cells(container, fields, cells)
    return seen_in(container, fields, cells)


def seen_in(container, fields, cells):
    """What view_of returns, for arguments that are as required."""
    table = dict(fields)
    blocks = _blocks_in(container, table)
    if blocks is None:
        return None
    rows = dict([(array, row) for (array, _), row in zip(container.arrays, cells)])
    view = ()
    for array, first, last, turned in blocks:
        view = view + _part_of(rows[array], first, last, turned)
    return view


def promised(operation, fields, cells, values, *inputs):
    """The view and the results that the promise makes of a state, or None."""
    _check_all(operation, fields, cells, values, inputs)
    lists = {"view": seen_in(operation.container, fields, cells)}
    if lists["view"] is None:
        return None
    for (name, _), row in zip(operation.inputs, inputs):
        lists[name] = row
    table = dict(fields + values)
    made = [_made_of(pieces, lists, table) for pieces in (operation.view,) + operation.results]
    if any([one is None for one in made]):
        return None
    return made[0], tuple(made[1:])


def is_allowed(operation, fields, values):
    """Whether a call in a state with these fields is allowed."""
    check_operation(operation)
    check_values(fields, operation.container.fields)
    check_values(values, tuple(sorted(operation.sizes)))
    table = dict(fields + values)
    if not operation.container.invariant.is_met(table) or not operation.premise.is_met(table):
        return False
    return _blocks_in(operation.container, table) is not None and has_buffers(operation, table)


def has_buffers(operation, table):
    """Whether no length of an input or output is below 0."""
    return all([worth_of(length, table) >= 0 for _, length in operation.inputs + operation.outputs])


def check_values(value, symbols):
    """Raises InvalidValues if the value is no values of just these symbols."""
    if not is_values(value) or tuple([symbol for symbol, _ in value]) != symbols:
        raise InvalidValues(value)


def check_cells(container, fields, cells):
    """Raises InvalidState if there is not a tuple of cells of the right length for each array."""
    if not isinstance(cells, tuple) or len(cells) != len(container.arrays):
        raise InvalidState(None)
    table = dict(fields)
    for at, (_, field) in enumerate(container.arrays):
        if not _is_row(cells[at], table[field]):
            raise InvalidState(at)


def check_inputs(operation, table, inputs):
    """Raises InvalidInputs if there is not a tuple of integers of the right length for each input."""
    if len(inputs) != len(operation.inputs):
        raise InvalidInputs(None)
    for at, (_, length) in enumerate(operation.inputs):
        if not _is_row(inputs[at], worth_of(length, table)):
            raise InvalidInputs(at)


def _check_all(operation, fields, cells, values, inputs):
    check_operation(operation)
    check_values(fields, operation.container.fields)
    check_cells(operation.container, fields, cells)
    check_values(values, tuple(sorted(operation.sizes)))
    table = dict(fields + values)
    if not has_buffers(operation, table):
        raise NotAllowed(values)
    check_inputs(operation, table, inputs)


def _is_row(value, length):
    return isinstance(value, tuple) and len(value) == length and all([is_integer(cell) for cell in value])


def _blocks_in(container, table):
    """The stretches of the view with the values of their forms; None if there is no view."""
    lengths = {array: table[field] for array, field in container.arrays}
    for condition, stretches in container.cases:
        if condition.is_met(table):
            blocks = [(array, worth_of(first, table), worth_of(last, table), turned)
                      for array, first, last, turned in stretches]
            inside = all([0 <= first <= last <= lengths[array] for array, first, last, _ in blocks])
            return blocks if inside else None
    return None


def _part_of(row, first, last, turned):
    part = row[first:last]
    return part[::-1] if turned else part


def _made_of(pieces, lists, table):
    """The elements of the pieces; None if they are broken."""
    made = ()
    for piece in pieces:
        part = _made_of_piece(piece, lists, table)
        if part is None:
            return None
        made = made + part
    return made


def _made_of_piece(piece, lists, table):
    if piece[0] == "fill":
        _, letter, amount = piece
        many = worth_of(amount, table)
        return None if many < 0 else (letter,) * many
    _, name, first, last, turned = piece
    first, last = worth_of(first, table), worth_of(last, table)
    if not 0 <= first <= last <= len(lists[name]):
        return None
    return _part_of(lists[name], first, last, turned)
