"""Whether certificates hold (point 24 of the document).

Nothing is searched for here: the refutations of a general claim are added up,
and the call of an example is run.
"""

from blockmoves.checks import check_by, check_condition_of, check_fraction, check_measure, check_two, potential_of
from blockmoves.claims import Bounding, Keeping, Likeness, Problem, Rightness, Soundness
from blockmoves.conditions import read_condition
from blockmoves.containers import read_container
from blockmoves.errors import InputError, InvalidCount, InvalidPotential, InvalidText, NotComparable
from blockmoves.forms import is_integer, read_form
from blockmoves.operations import read_operation
from blockmoves.paths import proof_path
from blockmoves.refutations import refutations_in
from blockmoves.runs import is_values_of

# How many parts the claims have behind their words.
_PARTS = {"right": 2, "alike": 4, "kept": 3, "at most": 5, "sound": 1,
          "wrong": 4, "unlike": 4, "not kept": 3, "more than": 5}


def holds(claim, certificate):
    """Whether any value is a claim, and another one a certificate of it."""
    if not isinstance(claim, tuple) or not claim or not isinstance(claim[0], str):
        return False
    word, *parts = claim
    if word not in _PARTS or len(parts) != _PARTS[word]:
        return False
    try:
        return _is_held(word, parts, certificate)
    except (InputError, NotComparable):
        return False


def _is_held(word, parts, certificate):
    if word in _EXAMPLES:
        reader = _EXAMPLES[word]
        subject = reader(*parts)
        return is_values_of(certificate, subject.unknowns) and subject.is_shown_by(certificate)
    reader = _GENERAL[word]
    subject = reader(*parts)
    refutations = refutations_in(certificate)
    return refutations is not None and subject.open_end(proof_path(refutations)) is None


def _soundness_in(container):
    return Soundness(read_container(container))


def _rightness_in(container, operation):
    return Rightness(read_operation(read_container(container), operation))


def _problem_in(container, operation, place, kind):
    known = read_operation(read_container(container), operation)
    if not is_integer(place):
        raise InvalidCount(place)
    if not isinstance(kind, str):
        raise InvalidText(kind)
    return Problem(known, place, kind)


def _likeness_in(container, first, second, by):
    known = read_container(container)
    one, other = read_operation(known, first), read_operation(known, second)
    check_two(one, other)
    check_by(by)
    return Likeness(one, other, by)


def _keeping_in(container, operation, condition):
    known = read_operation(read_container(container), operation)
    kept = read_condition(condition)
    check_condition_of(known.container, kept)
    return Keeping(known, kept)


def _bounding_in(container, operation, potential, form, fraction):
    known = read_operation(read_container(container), operation)
    if not isinstance(potential, tuple):
        raise InvalidPotential(potential)
    chosen = potential_of(known.container, tuple([_pair_in(pair) for pair in potential]))
    measure = read_form(form)
    check_measure(known, measure)
    check_fraction(fraction)
    return Bounding(known, chosen, measure, fraction)


def _pair_in(pair):
    """The condition and the form whose texts the pair has."""
    if not isinstance(pair, tuple) or len(pair) != 2:
        raise InvalidPotential(pair)
    condition, form = pair
    return read_condition(condition), read_form(form)


_GENERAL = {"right": _rightness_in, "alike": _likeness_in, "kept": _keeping_in, "at most": _bounding_in,
            "sound": _soundness_in}
_EXAMPLES = {"wrong": _problem_in, "unlike": _likeness_in, "not kept": _keeping_in, "more than": _bounding_in}
