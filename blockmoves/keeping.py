"""Which conditions operations keep, and which premises they need (point 21 of the document)."""

from blockmoves.checks import check_condition_of, check_conditions, check_operations
from blockmoves.containers import check_container, start_paths
from blockmoves.courses import beginnings
from blockmoves.limits import MAX_KEPT, MAX_PREMISES
from blockmoves.operations import check_operation
from blockmoves.paths import call_search, path_meeting
from blockmoves.troubles import breaking_paths, problem_paths


def is_kept(operation, condition):
    """Whether the operation keeps the condition."""
    return find_broken(operation, condition) is None


def find_broken(operation, condition):
    """None if the operation keeps the condition, otherwise values of the unknowns with which a call does not."""
    check_operation(operation)
    check_condition_of(operation.container, condition)
    begun = call_search(operation)
    for path in breaking_paths(operation, condition, begun):
        return path.solution()
    return None


def kept_part(container, operations, conditions):
    """The indexes of the greatest part of the conditions that is kept together."""
    check_container(container)
    check_operations(operations, container)
    check_conditions(conditions, MAX_KEPT, container.fields)
    kept = [index for index, condition in enumerate(conditions) if not start_paths(container, condition)]
    broken = {index: _all_breaking(operations, conditions[index]) for index in kept}
    # What one part breaks is in no part of it that is kept together, so the order does not matter.
    lost = _first_lost(kept, broken, conditions)
    while lost is not None:
        kept = [index for index in kept if index != lost]
        lost = _first_lost(kept, broken, conditions)
    return tuple(kept)


def least_premises(operation, conditions):
    """All least tuples of indexes of conditions with which the operation is right and has an allowed call."""
    check_operation(operation)
    check_conditions(conditions, MAX_PREMISES, operation.unknowns)
    begun = call_search(operation)
    called = beginnings(operation, [operation.premise], begun)
    allowed = [walk.path for walk in called]
    wrong = [path for _, _, path in problem_paths(operation, begun)]
    least = []
    for part in _parts_of(len(conditions)):
        if not any([_is_within(other, part) for other in least]):
            premises = [conditions[index] for index in part]
            if _is_met_in(allowed, premises) and not _is_met_in(wrong, premises):
                least.append(part)
    return tuple(sorted(least))


def _all_breaking(operations, condition):
    """The paths through all operations on which the condition holds before and not afterwards."""
    found = []
    for operation in operations:
        begun = call_search(operation)
        found.extend(list(breaking_paths(operation, condition, begun)))
    return found


def _first_lost(kept, broken, conditions):
    """The first index whose condition may be broken where all that are kept hold, or None."""
    held = [conditions[index] for index in kept]
    for index in kept:
        if _is_met_in(broken[index], held):
            return index
    return None


def _is_met_in(paths, conditions):
    """Whether one of the paths goes on to where all conditions hold."""
    return any([path_meeting(path, conditions) is not None for path in paths])


def _parts_of(many):
    """All ascending tuples of indexes below the number, smaller ones first."""
    parts = [()]
    for index in range(many):
        parts = parts + [part + (index,) for part in parts]
    return sorted(parts, key=len)


def _is_within(part, other):
    return all([index in other for index in part])
