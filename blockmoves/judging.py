"""Whether operations are right, and which of their statements are needed (points 14, 17 and 19 of the document)."""

from blockmoves.alike import alike
from blockmoves.courses import arrivals_in
from blockmoves.operations import Operation, check_operation
from blockmoves.paths import call_search, paths_along
from blockmoves.statements import Apart, Copy, Down, If, Up, condition_against, size_of
from blockmoves.troubles import problem_paths


def is_right(operation):
    """Whether no allowed call has a problem."""
    check_operation(operation)
    begun = call_search(operation)
    for _ in problem_paths(operation, begun):
        return False
    return True


def problems(operation):
    """Yields a triple (place, kind, values) for each problem that some allowed call has, ascending."""
    check_operation(operation)
    begun = call_search(operation)
    found = {}
    for place, kind, path in problem_paths(operation, begun):
        if (place, kind) not in found:
            found[place, kind] = path
    for place, kind in sorted(found):
        yield place, kind, found[place, kind].solution()


def reached(operation):
    """The ascending tuple of the places of all statements that the run of some allowed call comes to."""
    check_operation(operation)
    return tuple(sorted({place for place, _ in _arrivals_of(operation)}))


def enough(operation):
    """Pairs (place, words) for all copies: the words of the kinds of which no call would have the further stop."""
    check_operation(operation)
    arrivals = _arrivals_of(operation)
    found = []
    for place, statement in enumerate(operation.statements):
        if isinstance(statement, Copy):
            walks = [walk for own, walk in arrivals if own == place]
            found.append((place, tuple([kind.WORD for kind in _kinds_of(statement) if _never_stops(kind, walks)])))
    return tuple(found)


def needless(operation):
    """The ascending tuple of the places of all statements each of which can be left out by itself."""
    check_operation(operation)
    return tuple([place for place in range(operation.places) if alike(_without(operation, place), operation)])


def _arrivals_of(operation):
    return arrivals_in(operation, call_search(operation))


def _kinds_of(copy):
    """The copy as one of each kind that has a further stop, ascending by their words."""
    target, to, source, start, amount = copy.target, copy.to, copy.source, copy.start, copy.amount
    return [Apart(target, to, source, start, amount), Down(target, to, source, start, amount),
            Up(target, to, source, start, amount)]


def _never_stops(copy, walks):
    """Whether the copy has no stop in the walks but for "amount" and "range"."""
    return not any([_further_stops(copy, walk) for walk in walks])


def _further_stops(copy, walk):
    """The paths of the walk that the further stop of the copy ends."""
    paths = [walk.path]
    stops = []
    for kind, comparisons in copy.stops(walk.course):
        condition = condition_against(kind, comparisons)
        if kind not in ("amount", "range"):
            stops = paths_along(paths, [condition.listing(False)])
        paths = paths_along(paths, [condition.listing(True)])
    return stops


def _without(operation, place):
    """The operation without the statement at the place and all inside it."""
    return Operation(
        operation.container, operation.name, sizes=operation.sizes, inputs=operation.inputs,
        outputs=operation.outputs, premise=operation.premise, body=_body_without(operation.body, place),
        view=operation.view, results=operation.results)


def _body_without(statements, place):
    """The statements, the first of which stands at place 0, without that at the place."""
    kept = []
    for statement in statements:
        if 0 < place < statement.size:
            kept.append(_if_without(statement, place - 1))
        elif place != 0:
            kept.append(statement)
        place = place - statement.size
    return tuple(kept)


def _if_without(statement, place):
    then = _body_without(statement.then, place)
    return If(statement.condition, then, _body_without(statement.otherwise, place - size_of(statement.then)))
