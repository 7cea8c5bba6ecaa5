"""What the modules on demands ask of their arguments."""

from blockmoves.conditions import All, is_condition_on
from blockmoves.errors import InvalidBy, InvalidConditions, InvalidCount, InvalidFraction, InvalidOperations
from blockmoves.errors import InvalidPotential, NotACondition, NotAForm, NotComparable
from blockmoves.forms import Form, is_form_on, is_integer
from blockmoves.operations import Operation, check_operation

_MOST_PAIRS = 3


def check_two(first, second):
    """Raises an error if these are not two operations that can be compared."""
    check_operation(first)
    check_operation(second)
    if not first.container == second.container or first.sizes != second.sizes:
        raise NotComparable()
    if first.inputs != second.inputs or first.outputs != second.outputs:
        raise NotComparable()


def check_by(value):
    """Raises InvalidBy if the value is neither "view" nor "cells"."""
    if not isinstance(value, str) or value not in ("view", "cells"):
        raise InvalidBy(value)


def check_operations(value, container):
    """Raises InvalidOperations if the value is no tuple of operations on the container."""
    if not isinstance(value, tuple):
        raise InvalidOperations(None)
    for at, operation in enumerate(value):
        if not is_operation_on(operation, container):
            raise InvalidOperations(at)


def is_operation_on(value, container):
    """Whether any value is an operation on an equal container."""
    return isinstance(value, Operation) and value.container == container


def check_conditions(value, most, symbols):
    """Raises InvalidConditions if the value is no tuple of at most so many conditions on the symbols."""
    if not isinstance(value, tuple) or len(value) > most:
        raise InvalidConditions(None)
    for at, condition in enumerate(value):
        if not is_condition_on(condition, symbols):
            raise InvalidConditions(at)


def check_condition_of(container, value):
    """Raises NotACondition if the value is no condition on the fields."""
    if not is_condition_on(value, container.fields):
        raise NotACondition(value)


def potential_of(container, value):
    """The potential that the value is, or stands for; InvalidPotential if it is none."""
    if value is None:
        return ((All(), Form()),)
    if not isinstance(value, tuple) or not 1 <= len(value) <= _MOST_PAIRS:
        raise InvalidPotential(value)
    if not all([_is_pair_on(pair, container.fields) for pair in value]) or not value[-1][0] == All():
        raise InvalidPotential(value)
    return value


def _is_pair_on(pair, fields):
    if not isinstance(pair, tuple) or len(pair) != 2:
        return False
    return is_condition_on(pair[0], fields) and is_form_on(pair[1], fields)


def check_measure(operation, value):
    """Raises NotAForm if the value is no form on the unknowns without factors below 0."""
    if not is_measure(value) or not is_form_on(value, operation.unknowns):
        raise NotAForm(value)


def is_measure(value):
    """Whether any value is a form without factors below 0."""
    return isinstance(value, Form) and all([factor >= 0 for _, factor in value.terms])


def check_fraction(value):
    """Raises InvalidFraction if the value is no fraction."""
    if not is_fraction(value):
        raise InvalidFraction(value)


def is_fraction(value):
    """Whether any value is a pair of an integer from 0 on and one from 1 on."""
    if not isinstance(value, tuple) or len(value) != 2:
        return False
    return all([is_integer(number) for number in value]) and value[0] >= 0 and value[1] >= 1


def check_count(value):
    """Raises InvalidCount if the value is no integer from 1 on."""
    if not is_integer(value) or value < 1:
        raise InvalidCount(value)
