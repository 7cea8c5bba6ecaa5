"""How many cells operations write at most, compared with forms and with one another (point 22 of the document)."""

from math import gcd

from blockmoves.checks import check_count, check_measure, check_two, potential_of
from blockmoves.operations import check_operation
from blockmoves.paths import call_search, search_path
from blockmoves.troubles import joint_walks, spread_ends


def worst(operation, form, *, potential=None, near=100):
    """The least fraction that bounds the operation, whether it is reached, and values; None if there is none."""
    check_operation(operation)
    check_measure(operation, form)
    chosen = potential_of(operation.container, potential)
    check_count(near)
    ends = spread_ends(operation, chosen, call_search(operation))
    return _worst_of([(path, spread, form) for path, spread in ends], near)


def worst_beside(first, second, *, near=100):
    """The same for the cost of the first operation, compared with that of the second one."""
    check_two(first, second)
    check_count(near)
    walks = joint_walks(first, second, call_search(first))
    return _worst_of([(twin.path, course.cost, twin.course.cost) for course, twin in walks], near)


def _worst_of(ends, near):
    """What worst returns; each end has a path, a form that is to be bounded, and the form that bounds it."""
    fraction = _least_bound(ends)
    if fraction is None:
        return None
    over, under = fraction
    values = _first_values([(path, ((form, True), (spread * under - form * over, False)))
                            for path, spread, form in ends])
    if values is not None:
        return fraction, True, values
    close = [(path, ((form, True), (spread * (under * near) - form * (over * near - under), True)))
             for path, spread, form in ends]
    return fraction, False, _first_values(close)


def _first_values(pairs):
    """Values with which the facts of a path and further ones hold, for the first pair that has some, or None."""
    for path, facts in pairs:
        for onward in path.onward([facts]):
            return onward.solution()
    return None


def _least_bound(ends):
    """The least fraction that bounds all ends, in lowest terms; None if there is none.

    Where a fraction does not bound an end, the search stops at an edge of the
    cone of its facts. The next fraction to be tried is that of this edge: so
    no edge is met twice, and there are only so many.
    """
    fraction = (0, 1)
    for path, spread, form in ends:
        closed = _closed(path)
        edge = _edge_above(closed, spread, form, fraction)
        while edge is not None:
            cost, size = spread.evaluate(edge), form.evaluate(edge)
            if size == 0:
                return None
            common = gcd(cost, size)
            fraction = (cost // common, size // common)
            edge = _edge_above(closed, spread, form, fraction)
    return fraction


def _closed(path):
    """The search for values of the facts with none of them strict: whatever bounds these, bounds those, too."""
    facts = tuple([(form, False) for form, _ in path.facts])
    return search_path(path.corner.symbols).onward([facts])[0]


def _edge_above(closed, spread, form, fraction):
    """Values at which the spread cost is more than the fraction of the form, or None."""
    over, under = fraction
    for path in closed.onward([((spread * under - form * over, True),)]):
        return path.solution()
    return None
