"""The paths that lead to something that must not be (points 17, 20, 21 and 22 of the document).

Each generator is passed the path with which it begins: an open one for all
demands, a search for those that have values, a proof for those that are not
refuted.
"""

from blockmoves.conditions import Same, Upto
from blockmoves.courses import Tour, Walk, beginnings, first_course, whole_walks
from blockmoves.forms import Form
from blockmoves.origins import differences, piece_origins, pieces_length, present_stretches
from blockmoves.origins import row_origins, view_length, view_origins
from blockmoves.paths import paths_along
from blockmoves.plans import case_plan, chosen_plan, failing_plans, missing_plans
from blockmoves.plans import stretch_condition, ways_in


def problem_paths(operation, path):
    """Yields the triples (place, kind, path) for the problems of an operation."""
    tour = Tour()
    walks = tour.through(operation.body, 0, beginnings(operation, [operation.premise], path))
    yield from tour.stopped
    for walk in walks:
        for kind, end in _ends_of(operation, walk):
            yield operation.places, kind, end


def difference_paths(first, second, by, path):
    """Yields the pairs (kind, path) for what makes two operations unlike."""
    tour = Tour()
    walks = tour.through(first.body, 0, beginnings(first, [first.premise, second.premise], path))
    for _, _, stop in tour.stopped:
        yield "first", stop
    for walk in walks:
        other_tour = Tour()
        twins = _twins_of(walk, second, other_tour)
        for _, _, stop in other_tour.stopped:
            yield "second", stop
        for twin in twins:
            for kind, end in _differences_of(walk.course, twin, by):
                yield kind, end


def breaking_paths(operation, condition, path):
    """Yields the paths through whole walks on which the condition holds before and not afterwards."""
    for walk in whole_walks(operation, path):
        plan = [condition.listing(True), ways_in(condition, False, walk.course.present)]
        for end in paths_along([walk.path], plan):
            yield end


def dear_paths(operation, potential, form, fraction, path):
    """Yields the paths through whole walks on which the spread cost is more than the fraction of the form."""
    over, under = fraction
    for end, spread in spread_ends(operation, potential, path):
        for dear in end.onward([((spread * under - form * over, True),)]):
            yield dear


def spread_ends(operation, potential, path):
    """The pairs of a path through a whole walk and the form of the spread cost on it."""
    found = []
    for walk in whole_walks(operation, path):
        own, present = first_course(operation).present, walk.course.present
        for before in range(len(potential)):
            for after in range(len(potential)):
                plan = chosen_plan(potential, before, own) + chosen_plan(potential, after, present)
                spread = walk.course.cost + walk.course.now(potential[after][1]) - potential[before][1]
                found.extend([(end, spread) for end in paths_along([walk.path], plan)])
    return found


def joint_walks(first, second, path):
    """The pairs of the course behind the first body and the walk that goes on behind the second one."""
    walks = Tour().through(first.body, 0, beginnings(first, [first.premise, second.premise], path))
    return [(walk.course, twin) for walk in walks for twin in _twins_of(walk, second, Tour())]


def _twins_of(walk, second, tour):
    """The walks that go on by the second body from the same beginning."""
    return tour.through(second.body, 0, [Walk(walk.path, walk.case, first_course(second))])


def _named(kind, paths):
    return [(kind, path) for path in paths]


def _ends_of(operation, walk):
    """The pairs (kind, path) for the problems behind the body."""
    ways = ways_in(operation.container.invariant, False, walk.course.present)
    found = _named("invariant", walk.path.onward(ways))
    found.extend(_named("view", _missing_ends(walk.path, walk.course)))
    for pieces in (operation.view,) + operation.results:
        for plan in failing_plans(_piece_conditions(pieces, walk)):
            found.extend(_named("promise", paths_along([walk.path], plan)))
    for case in range(len(operation.container.cases)):
        found.extend(_view_ends(operation, walk, case))
    for (name, length), pieces in zip(operation.outputs, operation.results):
        found.extend(_result_ends(walk, name, length, pieces))
    return found


def _missing_ends(path, course):
    """The paths that go on to where the view is missing."""
    plans = missing_plans(course.operation.container.cases, course.present, course.lengths)
    return [end for plan in plans for end in paths_along([path], plan)]


def _before_of(walk):
    """The stretches of the case before, with the fields themselves."""
    return present_stretches(walk.case, first_course(walk.course.operation))


def _piece_conditions(pieces, walk):
    """The condition of each piece that it is not broken."""
    lengths = {"view": view_length(_before_of(walk))}
    for name, length in walk.course.operation.inputs:
        lengths[name] = length
    return [_piece_condition(piece, lengths) for piece in pieces]


def _piece_condition(piece, lengths):
    if piece[0] == "fill":
        return Upto(Form(), piece[2])
    _, name, first, last, _ = piece
    return stretch_condition(first, last, lengths[name])


def _met_plan(conditions):
    return [condition.listing(True) for condition in conditions]


def _view_ends(operation, walk, case):
    """Where the view afterwards, by this case, is not that of the pieces."""
    plan = case_plan(operation.container.cases, case, walk.course.present, walk.course.lengths)
    paths = paths_along([walk.path], plan + _met_plan(_piece_conditions(operation.view, walk)))
    stretches = present_stretches(case, walk.course)
    same = Same(view_length(stretches), pieces_length(operation.view))
    origins = view_origins(stretches, walk.course), piece_origins(operation.view, _before_of(walk))
    return _unequal_ends(paths, same, origins, "length", "cell")


def _result_ends(walk, name, length, pieces):
    """Where an output is not that of its pieces."""
    paths = paths_along([walk.path], _met_plan(_piece_conditions(pieces, walk)))
    origins = row_origins(name, length, walk.course), piece_origins(pieces, _before_of(walk))
    return _unequal_ends(paths, Same(length, pieces_length(pieces)), origins, "result", "result")


def _unequal_ends(paths, same, origins, length_kind, cell_kind):
    """The paths on which two lengths differ, and those on which they are the same and a cell differs.

    `origins` are those of the position `@` in both.
    """
    found = _named(length_kind, paths_along(paths, [same.listing(False)]))
    return found + _named(cell_kind, _meeting_ends(paths_along(paths, [same.listing(True)]), origins))


def _meeting_ends(paths, origins):
    """The paths that go on to a meeting of the origins of one position (point 18)."""
    first, second = origins
    found = []
    for facts, origin in first:
        there = paths_along(paths, [[facts]])
        if there:
            ways = [others + further for others, other in second for further in differences(origin, other)]
            found.extend(paths_along(there, [ways]))
    return found


def _differences_of(course, twin, by):
    """The pairs (kind, path) behind both bodies; the course is that of the first one."""
    if by == "view":
        found = _view_differences(course, twin)
    else:
        found = _cell_differences(course, twin)
    for name, length in course.operation.outputs:
        origins = row_origins(name, length, course), row_origins(name, length, twin.course)
        found.extend(_named("result", _meeting_ends([twin.path], origins)))
    return found


def _cell_differences(course, twin):
    container = course.operation.container
    found = []
    for field in container.fields:
        same = Same(course.present[field], twin.course.present[field])
        found.extend(_named("field", twin.path.onward(same.listing(False))))
    for array, _ in container.arrays:
        first, second = course.lengths[array], twin.course.lengths[array]
        paths = twin.path.onward(Same(first, second).listing(True))
        origins = row_origins(array, first, course), row_origins(array, second, twin.course)
        found.extend(_named("array", _meeting_ends(paths, origins)))
    return found


def _view_differences(course, twin):
    found = _named("view", _missing_ends(twin.path, course) + _missing_ends(twin.path, twin.course))
    cases = range(len(course.operation.container.cases))
    for case in cases:
        for other in cases:
            found.extend(_case_differences(course, case, twin, other))
    return found


def _case_differences(course, case, twin, other):
    cases = course.operation.container.cases
    plan = case_plan(cases, case, course.present, course.lengths)
    plan = plan + case_plan(cases, other, twin.course.present, twin.course.lengths)
    first, second = present_stretches(case, course), present_stretches(other, twin.course)
    origins = view_origins(first, course), view_origins(second, twin.course)
    same = Same(view_length(first), view_length(second))
    return _unequal_ends(paths_along([twin.path], plan), same, origins, "length", "cell")
