"""Whether two operations do the same (point 20 of the document)."""

from blockmoves.checks import check_by, check_two
from blockmoves.paths import call_search
from blockmoves.troubles import difference_paths


def alike(first, second, *, by="view"):
    """Whether both operations are alike."""
    return find_difference(first, second, by=by) is None


def find_difference(first, second, *, by="view"):
    """None if both are alike, otherwise values of the unknowns with which calls show that they are not."""
    check_two(first, second)
    check_by(by)
    begun = call_search(first)
    for _, path in difference_paths(first, second, by, begun):
        return path.solution()
    return None
