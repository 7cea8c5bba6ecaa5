"""Runs of operations on real cells (points 10 to 13 of the document)."""

from blockmoves.containers import check_container
from blockmoves.errors import InvalidInputs, InvalidState, InvalidValues, NotAllowed
from blockmoves.forms import is_integer, is_values, worth_of
from blockmoves.machines import Machine, first_strips, has_buffers, may_call, promise_in, view_in
from blockmoves.operations import check_operation
from blockmoves.strips import cells_in


def run(operation, fields, cells, values, *inputs):
    """The fields, cells and outputs after the body, and the cost; Stopped if it stops."""
    _check_all(operation, fields, cells, values, inputs)
    return outcome_of(operation, fields, cells, values, inputs)


def outcome_of(operation, fields, cells, values, inputs):
    """What run returns, for arguments that are as required."""
    machine = Machine(operation, fields + values)
    machine.perform(operation.body, 0)
    container = operation.container
    rows = _rows_of(container.arrays + operation.inputs, cells + inputs)
    after = tuple([(field, machine.table[field]) for field in container.fields])
    kept, made = [tuple([cells_in(machine.strips[name], rows) for name, _ in pairs])
                  for pairs in (container.arrays, operation.outputs)]
    return after, kept, made, machine.cost


def view_of(container, fields, cells):
    """The view of the state, or None."""
    check_container(container)
    check_values(fields, container.fields)
    check_cells(container, fields, cells)
    return seen_in(container, fields, cells)


def seen_in(container, fields, cells):
    """What view_of returns, for arguments that are as required."""
    table = dict(fields)
    view = view_in(container, table, first_strips(container, table))
    return None if view is None else cells_in(view, _rows_of(container.arrays, cells))


def promised(operation, fields, cells, values, *inputs):
    """The view and the results that the promise makes of a state, or None."""
    _check_all(operation, fields, cells, values, inputs)
    machine = Machine(operation, fields + values)
    if view_in(operation.container, machine.table, machine.strips) is None:
        return None
    made = promise_in(operation, machine.table, machine.strips)
    if any([one is None for one in made]):
        return None
    rows = _rows_of(operation.container.arrays + operation.inputs, cells + inputs)
    view, *results = [cells_in(one, rows) for one in made]
    return view, tuple(results)


def is_allowed(operation, fields, values):
    """Whether a call in a state with these fields is allowed."""
    check_operation(operation)
    check_values(fields, operation.container.fields)
    check_values(values, tuple(sorted(operation.sizes)))
    return may_call(operation, dict(fields + values))


def check_values(value, symbols):
    """Raises InvalidValues if the value is no values of just these symbols."""
    if not is_values_of(value, symbols):
        raise InvalidValues(value)


def is_values_of(value, symbols):
    """Whether any value is values of just these symbols."""
    return is_values(value) and tuple([symbol for symbol, _ in value]) == symbols


def check_cells(container, fields, cells):
    """Raises InvalidState if there is not a tuple of cells of the right length for each array."""
    if not isinstance(cells, tuple) or len(cells) != len(container.arrays):
        raise InvalidState(None)
    table = dict(fields)
    for at, (_, field) in enumerate(container.arrays):
        if not _is_row(cells[at], table[field]):
            raise InvalidState(at)


def check_inputs(operation, table, inputs):
    """Raises InvalidInputs if there is not a tuple of integers of the right length for each input."""
    if len(inputs) != len(operation.inputs):
        raise InvalidInputs(None)
    for at, (_, length) in enumerate(operation.inputs):
        if not _is_row(inputs[at], worth_of(length, table)):
            raise InvalidInputs(at)


def _check_all(operation, fields, cells, values, inputs):
    check_operation(operation)
    check_values(fields, operation.container.fields)
    check_cells(operation.container, fields, cells)
    check_values(values, tuple(sorted(operation.sizes)))
    table = dict(fields + values)
    if not has_buffers(operation, table):
        raise NotAllowed(values)
    check_inputs(operation, table, inputs)


def _rows_of(pairs, rows):
    """The rows by their names, the first elements of the pairs."""
    return {name: row for (name, _), row in zip(pairs, rows)}


def _is_row(value, length):
    return isinstance(value, tuple) and len(value) == length and all([is_integer(cell) for cell in value])
