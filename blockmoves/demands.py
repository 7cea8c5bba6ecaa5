"""The demands of operations and containers (points 17, 20, 21, 22 and 24 of the document)."""

from blockmoves.checks import check_by, check_condition_of, check_fraction, check_measure, check_two, potential_of
from blockmoves.containers import check_container, unsound_plans
from blockmoves.operations import check_operation
from blockmoves.paths import open_path, paths_along
from blockmoves.troubles import breaking_paths, dear_paths, difference_paths, problem_paths


def demands_of(operation):
    """Yields the triples (place, kind, facts) whose facts have no values if the operation is right."""
    check_operation(operation)
    begun = open_path()
    for place, kind, path in problem_paths(operation, begun):
        yield place, kind, path.facts


def demands_of_both(first, second, *, by="view"):
    """Yields the pairs (kind, facts) whose facts have no values if both operations are alike."""
    check_two(first, second)
    check_by(by)
    begun = open_path()
    for kind, path in difference_paths(first, second, by, begun):
        yield kind, path.facts


def demands_of_kept(operation, condition):
    """Yields the facts that have no values if the operation keeps the condition."""
    check_operation(operation)
    check_condition_of(operation.container, condition)
    begun = open_path()
    for path in breaking_paths(operation, condition, begun):
        yield path.facts


def demands_of_bound(operation, potential, form, fraction):
    """Yields the facts that have no values if the fraction bounds the operation."""
    check_operation(operation)
    chosen = potential_of(operation.container, potential)
    check_measure(operation, form)
    check_fraction(fraction)
    begun = open_path()
    for path in dear_paths(operation, chosen, form, fraction, begun):
        yield path.facts


def demands_of_container(container):
    """Yields the facts that have no values if the container is sound."""
    check_container(container)
    for plan in unsound_plans(container):
        for path in paths_along([open_path()], plan):
            yield path.facts
