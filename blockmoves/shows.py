"""What calls with given values show (points 14, 20, 21, 22 and 24 of the document).

They are calls with unlike integers in all cells, none of which is a letter.
"""

from blockmoves.errors import Stopped
from blockmoves.forms import worth_of
from blockmoves.machines import Machine, may_call, promise_in, view_in
from blockmoves.strips import are_same, strip_length


def shown_problems(operation, values):
    """The pairs (place, kind) of all problems of the call; none if it is not allowed."""
    if not may_call(operation, dict(values)):
        return []
    machine = Machine(operation, values)
    made = promise_in(operation, machine.table, machine.strips)
    try:
        machine.perform(operation.body, 0)
    except Stopped as stop:
        return [(stop.place, stop.kind)]
    return [(operation.places, kind) for kind in _kinds_shown(machine, made)]


def shows_difference(first, second, by, values):
    """Whether calls of both operations are allowed and show that they are not alike."""
    table = dict(values)
    if not may_call(first, table) or not may_call(second, table):
        return False
    one, other = _machine_behind(first, values), _machine_behind(second, values)
    if one is None or other is None or not _are_alike_in(_names_of(first.outputs), one, other):
        return True
    if by == "view":
        return not _have_same_views(one, other)
    container = first.container
    same = all([one.table[field] == other.table[field] for field in container.fields])
    return not same or not _are_alike_in(_names_of(container.arrays), one, other)


def shows_breach(operation, condition, values):
    """Whether a call is allowed that does not keep the condition."""
    if not may_call(operation, dict(values)) or not condition.is_met(dict(values)):
        return False
    machine = _machine_behind(operation, values)
    return machine is not None and not condition.is_met(machine.table)


def shows_excess(operation, potential, form, fraction, values):
    """Whether a call is allowed whose spread cost is more than the fraction of the form."""
    if not may_call(operation, dict(values)):
        return False
    machine = _machine_behind(operation, values)
    if machine is None:
        return False
    spread = machine.cost + _potential_in(potential, machine.table) - _potential_in(potential, dict(values))
    over, under = fraction
    return spread * under > worth_of(form, dict(values)) * over


def _machine_behind(operation, values):
    """The machine behind the run, or None if it stops."""
    machine = Machine(operation, values)
    try:
        machine.perform(operation.body, 0)
    except Stopped:
        return None
    return machine


def _kinds_shown(machine, made):
    """The kinds of the problems behind the run; `made` is what the pieces of the promise make."""
    operation = machine.operation
    kinds = []
    if not operation.container.invariant.is_met(machine.table):
        kinds.append("invariant")
    if any([strip is None for strip in made]):
        kinds.append("promise")
    view, *results = made
    seen = _view_behind(machine)
    if seen is None:
        kinds.append("view")
    elif view is not None and not are_same(seen, view):
        kinds.append("cell" if strip_length(seen) == strip_length(view) else "length")
    for name, result in zip(_names_of(operation.outputs), results):
        if result is not None and not are_same(machine.strips[name], result):
            kinds.append("result")
    return kinds


def _view_behind(machine):
    return view_in(machine.operation.container, machine.table, machine.strips)


def _have_same_views(one, other):
    first, second = _view_behind(one), _view_behind(other)
    return first is not None and second is not None and are_same(first, second)


def _are_alike_in(names, one, other):
    """Whether the rows of these names are the same in both machines."""
    return all([are_same(one.strips[name], other.strips[name]) for name in names])


def _names_of(pairs):
    return [name for name, _ in pairs]


def _potential_in(potential, table):
    """The value of the potential in a state."""
    for condition, form in potential:
        if condition.is_met(table):
            return worth_of(form, table)
    return 0
