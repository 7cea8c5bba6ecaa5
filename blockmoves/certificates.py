"""Claims with certificates that the checker accepts (point 24 of the document)."""

from blockmoves.checks import check_by, check_condition_of, check_fraction, check_measure, check_two, potential_of
from blockmoves.claims import Bounding, Keeping, Likeness, Rightness, Soundness
from blockmoves.containers import check_container
from blockmoves.operations import check_operation
from blockmoves.paths import noted_search
from blockmoves.refutations import Book
from blockmoves.troubles import problem_paths


def certify(operation):
    """The claim "right" or "wrong", and its certificate."""
    check_operation(operation)
    subject, book = Rightness(operation), Book()
    begun = noted_search(subject.unknowns, book)
    least = None
    for place, kind, path in problem_paths(operation, begun):
        if least is None or (place, kind) < least[:2]:
            least = (place, kind, path)
    if least is None:
        return ("right",) + subject.texts, book.certificate()
    place, kind, path = least
    return ("wrong",) + subject.texts + (place, kind), path.solution()


def certify_alike(first, second, *, by="view"):
    """The claim "alike" or "unlike", and its certificate."""
    check_two(first, second)
    check_by(by)
    return _certified(Likeness(first, second, by), "alike", "unlike")


def certify_kept(operation, condition):
    """The claim "kept" or "not kept", and its certificate."""
    check_operation(operation)
    check_condition_of(operation.container, condition)
    return _certified(Keeping(operation, condition), "kept", "not kept")


def certify_bound(operation, potential, form, fraction):
    """The claim "at most" or "more than", and its certificate."""
    check_operation(operation)
    chosen = potential_of(operation.container, potential)
    check_measure(operation, form)
    check_fraction(fraction)
    return _certified(Bounding(operation, chosen, form, fraction), "at most", "more than")


def certify_sound(container):
    """The claim "sound" and its certificate; None if the container is not sound."""
    check_container(container)
    subject, book = Soundness(container), Book()
    if subject.open_end(noted_search(subject.unknowns, book)) is not None:
        return None
    return ("sound",) + subject.texts, book.certificate()


def _certified(subject, general, example):
    """The one of both claims on the subject that is true, and its certificate."""
    book = Book()
    end = subject.open_end(noted_search(subject.unknowns, book))
    if end is None:
        return (general,) + subject.texts, book.certificate()
    return (example,) + subject.texts, end.solution()
