"""The paths that lead to something that must not be (points 17, 20, 21 and 22 of the document).

Each generator is passed the path with which it begins: an open one for all
demands, a searching one for those that have values.
"""

from blockmoves.conditions import Same, Upto
from blockmoves.courses import Tour, Walk, beginnings, first_course, whole_walks
from blockmoves.forms import Form
from blockmoves.origins import meetings, piece_origins, pieces_length, present_stretches
from blockmoves.origins import row_origins, view_length, view_origins
from blockmoves.plans import case_plan, chosen_plan, failing_plans, missing_plans, paths_along
from blockmoves.plans import stretch_condition, ways_in


def problem_paths(operation, path):
    """Yields the triples (place, kind, path) for the problems of an operation."""
    tour = Tour()
    walks = tour.through(operation.body, 0, beginnings(operation, [operation.premise], path))
    yield from tour.stopped
    for walk in walks:
        for kind, end in _ends_of(operation, walk):
            yield operation.places, kind, end


def difference_paths(first, second, by, path):
    """Yields the pairs (kind, path) for what makes two operations unlike."""
    tour = Tour()
    walks = tour.through(first.body, 0, beginnings(first, [first.premise, second.premise], path))
    for _, _, stop in tour.stopped:
        yield "first", stop
    for walk in walks:
        other_tour = Tour()
        twins = other_tour.through(second.body, 0, [Walk(walk.path, walk.case, first_course(second))])
        for _, _, stop in other_tour.stopped:
            yield "second", stop
        for twin in twins:
            for kind, end in _differences_of(walk.course, twin, by):
                yield kind, end


def breaking_paths(operation, held, broken, path):
    """Yields the paths through whole walks on which conditions hold before and one does not afterwards."""
    for walk in whole_walks(operation, path):
        own = first_course(operation).present
        plan = [ways_in(condition, True, own) for condition in held] + [ways_in(broken, False, walk.course.present)]
        for end in paths_along([walk.path], plan):
            yield end


def dear_paths(operation, potential, form, fraction, path):
    """Yields the paths through whole walks on which the spread cost is more than the fraction of the form."""
    for walk in whole_walks(operation, path):
        for end in _dear_ends(operation, walk, potential, form, fraction):
            yield end


def _named(kind, paths):
    return [(kind, path) for path in paths]


def _ends_of(operation, walk):
    """The pairs (kind, path) for the problems behind the body."""
    ways = ways_in(operation.container.invariant, False, walk.course.present)
    found = _named("invariant", walk.path.onward(ways))
    found.extend(_named("view", _missing_ends(walk.path, walk.course)))
    for pieces in (operation.view,) + operation.results:
        for plan in failing_plans(_piece_conditions(pieces, walk)):
            found.extend(_named("promise", paths_along([walk.path], plan)))
    for case in range(len(operation.container.cases)):
        found.extend(_view_ends(operation, walk, case))
    for (name, length), pieces in zip(operation.outputs, operation.results):
        found.extend(_result_ends(walk, name, length, pieces))
    return found


def _missing_ends(path, course):
    """The paths that go on to where the view is missing."""
    plans = missing_plans(course.operation.container.cases, course.present, course.lengths)
    return [end for plan in plans for end in paths_along([path], plan)]


def _before_of(walk):
    """The stretches of the case before, with the fields themselves."""
    return present_stretches(walk.case, first_course(walk.course.operation))


def _piece_conditions(pieces, walk):
    """The condition of each piece that it is not broken."""
    lengths = {"view": view_length(_before_of(walk))}
    for name, length in walk.course.operation.inputs:
        lengths[name] = length
    return [_piece_condition(piece, lengths) for piece in pieces]


def _piece_condition(piece, lengths):
    if piece[0] == "fill":
        return Upto(Form(), piece[2])
    _, name, first, last, _ = piece
    return stretch_condition(first, last, lengths[name])


def _met_plan(conditions):
    return [condition.listing(True) for condition in conditions]


def _view_ends(operation, walk, case):
    """Where the view afterwards, by this case, is not that of the pieces."""
    plan = case_plan(operation.container.cases, case, walk.course.present, walk.course.lengths)
    paths = paths_along([walk.path], plan + _met_plan(_piece_conditions(operation.view, walk)))
    stretches = present_stretches(case, walk.course)
    same = Same(view_length(stretches), pieces_length(operation.view))
    met = meetings(view_origins(stretches, walk.course), piece_origins(operation.view, _before_of(walk)))
    return _unequal_ends(paths, same, met, "length", "cell")


def _result_ends(walk, name, length, pieces):
    """Where an output is not that of its pieces."""
    paths = paths_along([walk.path], _met_plan(_piece_conditions(pieces, walk)))
    met = meetings(row_origins(name, length, walk.course), piece_origins(pieces, _before_of(walk)))
    return _unequal_ends(paths, Same(length, pieces_length(pieces)), met, "result", "result")


def _unequal_ends(paths, same, met, length_kind, cell_kind):
    """The paths on which two lengths differ, and those on which they are the same and a cell differs."""
    found = _named(length_kind, paths_along(paths, [same.listing(False)]))
    return found + _named(cell_kind, paths_along(paths, [same.listing(True), met]))


def _differences_of(course, twin, by):
    """The pairs (kind, path) behind both bodies; the course is that of the first one."""
    if by == "view":
        found = _view_differences(course, twin)
    else:
        found = _cell_differences(course, twin)
    for name, length in course.operation.outputs:
        met = meetings(row_origins(name, length, course), row_origins(name, length, twin.course))
        found.extend(_named("result", twin.path.onward(met)))
    return found


def _cell_differences(course, twin):
    container = course.operation.container
    found = []
    for field in container.fields:
        same = Same(course.present[field], twin.course.present[field])
        found.extend(_named("field", twin.path.onward(same.listing(False))))
    for array, _ in container.arrays:
        first, second = course.lengths[array], twin.course.lengths[array]
        met = meetings(row_origins(array, first, course), row_origins(array, second, twin.course))
        found.extend(_named("array", paths_along([twin.path], [Same(first, second).listing(True), met])))
    return found


def _view_differences(course, twin):
    found = _named("view", _missing_ends(twin.path, course) + _missing_ends(twin.path, twin.course))
    cases = range(len(course.operation.container.cases))
    for case in cases:
        for other in cases:
            found.extend(_case_differences(course, case, twin, other))
    return found


def _case_differences(course, case, twin, other):
    cases = course.operation.container.cases
    plan = case_plan(cases, case, course.present, course.lengths)
    plan = plan + case_plan(cases, other, twin.course.present, twin.course.lengths)
    first, second = present_stretches(case, course), present_stretches(other, twin.course)
    met = meetings(view_origins(first, course), view_origins(second, twin.course))
    same = Same(view_length(first), view_length(second))
    return _unequal_ends(paths_along([twin.path], plan), same, met, "length", "cell")


def _dear_ends(operation, walk, potential, form, fraction):
    over, under = fraction
    own = first_course(operation).present
    found = []
    for before in range(len(potential)):
        for after in range(len(potential)):
            plan = chosen_plan(potential, before, own) + chosen_plan(potential, after, walk.course.present)
            spread = walk.course.cost + walk.course.now(potential[after][1]) - potential[before][1]
            found.extend(paths_along([walk.path], plan + [[((spread * under - form * over, True),)]]))
    return found
