"""Values of facts, or a refutation of them (point 9 of the document)."""

from blockmoves.corners import corner_of
from blockmoves.errors import InvalidFacts
from blockmoves.forms import Form, is_integer
from blockmoves.limits import MAX_FACTS

_MOST_SYMBOLS = 8


def find_values(facts):
    """Values of just the symbols of all forms with which all facts hold, or None."""
    corner = corner_of(facts, _checked_symbols(facts))
    return corner.answer() if corner.refutation is None else None


def refute(facts):
    """A multiplier for each fact, such that they cannot all hold; None if they can."""
    return corner_of(facts, _checked_symbols(facts)).refutation


def refutes(facts, multipliers):
    """Whether any value is a refutation of the facts."""
    symbols = _checked_symbols(facts)
    if not isinstance(multipliers, tuple) or len(multipliers) != len(facts):
        return False
    if not all([is_integer(many) and many >= 0 for many in multipliers]):
        return False
    if not any([strict and many > 0 for (_, strict), many in zip(facts, multipliers)]):
        return False
    return all([_sum_at(symbol, facts, multipliers) <= 0 for symbol in symbols])


def _sum_at(symbol, facts, multipliers):
    """The factor of the symbol in the sum of the forms times their multipliers."""
    return sum([form.factor(symbol) * many for (form, _), many in zip(facts, multipliers)])


def _checked_symbols(facts):
    """The ascending tuple of the symbols of all forms."""
    if not isinstance(facts, tuple) or len(facts) > MAX_FACTS:
        raise InvalidFacts(None)
    for at, fact in enumerate(facts):
        if not _is_fact(fact):
            raise InvalidFacts(at)
    symbols = sorted({symbol for form, _ in facts for symbol in form.symbols})
    if len(symbols) > _MOST_SYMBOLS:
        raise InvalidFacts(None)
    return tuple(symbols)


def _is_fact(value):
    if not isinstance(value, tuple) or len(value) != 2:
        return False
    form, strict = value
    return isinstance(form, Form) and (strict is True or strict is False)
