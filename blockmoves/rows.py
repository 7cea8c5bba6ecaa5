"""Moves that are meant at once, done in a row (point 23 of the document).

A block is a triple: its array, and the forms of its start and of its amount.
"""

from blockmoves.conditions import All, Below, Condition, Not, Same
from blockmoves.errors import InvalidMoves, InvalidPremise, TargetsMeet
from blockmoves.forms import MIDDLE, Form
from blockmoves.limits import MAX_MOVES, MAX_SYMBOLS
from blockmoves.paths import paths_along, search_path
from blockmoves.plans import not_below_zero
from blockmoves.statements import Apart, Copy, Down, Up


def row_of(moves, premise):
    """The least order of the moves that does in a row what is meant at once; None if there is none."""
    row = _longest_row(_befores_of(moves, premise))
    return row if len(row) == len(moves) else None


def ring_of(moves, premise):
    """Moves each of which must come behind the next one, the last behind the first; None if there is a row."""
    befores = _befores_of(moves, premise)
    row = _longest_row(befores)
    if len(row) == len(moves):
        return None
    ring = ()
    # Each move that is left must come behind another one that is left, so one comes again at last.
    index = _left(list(range(len(moves))), row)[0]
    while index not in ring:
        ring = ring + (index,)
        index = _left(befores[index], row)[0]
    return ring[ring.index(index):]


def _longest_row(befores):
    """The indexes in the least order, until all that are left must come behind others that are left."""
    row = ()
    ready = _ready(befores, row)
    while ready:
        row = row + (ready[0],)
        ready = _ready(befores, row)
    return row


def _ready(befores, row):
    return [index for index in _left(list(range(len(befores))), row) if not _left(befores[index], row)]


def _left(indexes, row):
    return [index for index in indexes if index not in row]


def _befores_of(moves, premise):
    """For each move the list of those that it must come behind."""
    _check_moves(moves)
    symbols = _checked_symbols(moves, premise)
    meant = _meant_paths(moves, premise, symbols)
    _check_targets(moves, meant)
    return [[index for index, other in enumerate(moves) if index != own and _may_be(_clash_plan(move, other), meant)]
            for own, move in enumerate(moves)]


def _check_moves(moves):
    if not isinstance(moves, tuple) or not 1 <= len(moves) <= MAX_MOVES:
        raise InvalidMoves(None)
    for at, move in enumerate(moves):
        if not isinstance(move, Copy) or isinstance(move, (Up, Down, Apart)):
            raise InvalidMoves(at)


def _checked_symbols(moves, premise):
    """The ascending tuple of all symbols; InvalidPremise if they are too many, or with a wrong premise."""
    used = [symbol for move in moves for form in move.forms for symbol in form.symbols]
    if premise is not None:
        if not isinstance(premise, Condition):
            raise InvalidPremise(premise)
        used.extend(premise.symbols)
    symbols = tuple(sorted(set(used)))
    if len(symbols) > MAX_SYMBOLS or MIDDLE in symbols:
        raise InvalidPremise(premise)
    return symbols


def _meant_paths(moves, premise, symbols):
    """The paths to all values with which the moves are meant."""
    forms = [form for move in moves for form in move.forms]
    allowed = [()] if premise is None else premise.listing(True)
    return paths_along([search_path(symbols)], [[not_below_zero(forms)], allowed])


def _check_targets(moves, meant):
    for first, move in enumerate(moves):
        for second, other in enumerate(moves):
            if first < second and _may_be(_shared_plan(_target_of(move), _target_of(other)), meant):
                raise TargetsMeet(first, second)


def _may_be(plan, meant):
    """Whether the plan can be met with values with which the moves are meant; None is a plan that cannot."""
    return plan is not None and bool(paths_along(meant, plan))


def _target_of(move):
    return move.target, move.to, move.amount


def _source_of(move):
    return move.source, move.start, move.amount


def _shared_plan(first, second):
    """The plan that both blocks share a cell, or None."""
    array, start, amount = first
    other_array, other_start, other_amount = second
    if array != other_array:
        return None
    shared = All(Below(Form(), amount), Below(Form(), other_amount),
                 Below(start, other_start + other_amount), Below(other_start, start + amount))
    return [shared.listing(True)]


def _clash_plan(move, other):
    """The plan that the move must come behind the other one, or None."""
    plan = _shared_plan(_target_of(move), _source_of(other))
    if plan is None or move.target != move.source:
        return plan
    return plan + [Not(Same(move.to, move.start)).listing(True)]
