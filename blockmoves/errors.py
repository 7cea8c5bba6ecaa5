"""The errors of the package. Each field is kept just as it was passed."""


class InputError(ValueError):
    """What was passed is not as required."""


class InvalidName(InputError):
    """What must be a name, or a keyword that must be a symbol, is none."""

    def __init__(self, value):
        self.value = value


class InvalidFactor(InputError):
    """A factor of a form is no integer."""

    def __init__(self, value):
        self.value = value


class InvalidText(InputError):
    """The text is not one that `str` gives."""

    def __init__(self, value):
        self.value = value


class InvalidValues(InputError):
    """The values are none, or lack a symbol, or have others than they must."""

    def __init__(self, value):
        self.value = value


class InvalidTruth(InputError):
    """Neither True nor False."""

    def __init__(self, value):
        self.value = value


class InvalidPremise(InputError):
    """The premise is no condition, or has other symbols than it may."""

    def __init__(self, value):
        self.value = value


class InvalidInvariant(InputError):
    """The invariant is no condition, or has other symbols than it may."""

    def __init__(self, value):
        self.value = value


class InvalidLetter(InputError):
    """A letter is no integer."""

    def __init__(self, value):
        self.value = value


class InvalidBy(InputError):
    """Neither "view" nor "cells"."""

    def __init__(self, value):
        self.value = value


class InvalidPotential(InputError):
    """Neither None nor a potential."""

    def __init__(self, value):
        self.value = value


class InvalidFraction(InputError):
    """Not a pair of integers with a denominator from 1 on."""

    def __init__(self, value):
        self.value = value


class InvalidCount(InputError):
    """A number is no integer, or not in its range."""

    def __init__(self, value):
        self.value = value


class NotAForm(InputError):
    """No form, or one with other symbols or factors than it may have."""

    def __init__(self, value):
        self.value = value


class NotACondition(InputError):
    """No condition, or one with other symbols than it may have."""

    def __init__(self, value):
        self.value = value


class NotAContainer(InputError):
    """No container."""

    def __init__(self, value):
        self.value = value


class NotAnOperation(InputError):
    """No operation, or one on another container."""

    def __init__(self, value):
        self.value = value


class NotAStore(InputError):
    """No store."""

    def __init__(self, value):
        self.value = value


class InvalidFacts(InputError):
    """The facts are not a tuple of facts, or are too many."""

    def __init__(self, index):
        self.index = index


class InvalidArrays(InputError):
    """The arrays of a container are not as required."""

    def __init__(self, index):
        self.index = index


class InvalidFields(InputError):
    """The fields of a container are not as required."""

    def __init__(self, index):
        self.index = index


class InvalidParameters(InputError):
    """The parameters of a container are not as required."""

    def __init__(self, index):
        self.index = index


class InvalidBegin(InputError):
    """The first values of a container are not as required."""

    def __init__(self, index):
        self.index = index


class InvalidCases(InputError):
    """The cases of a view are not as required."""

    def __init__(self, index):
        self.index = index


class InvalidBranch(InputError):
    """A branch of an If is not a tuple of statements."""

    def __init__(self, index):
        self.index = index


class InvalidSizes(InputError):
    """The sizes of an operation are not as required."""

    def __init__(self, index):
        self.index = index


class InvalidInputs(InputError):
    """The inputs of an operation or of a call are not as required."""

    def __init__(self, index):
        self.index = index


class InvalidOutputs(InputError):
    """The outputs of an operation are not as required."""

    def __init__(self, index):
        self.index = index


class InvalidView(InputError):
    """The pieces of a view are not as required."""

    def __init__(self, index):
        self.index = index


class InvalidResults(InputError):
    """The pieces of the outputs are not as required."""

    def __init__(self, index):
        self.index = index


class InvalidState(InputError):
    """The cells of a state are not as required."""

    def __init__(self, index):
        self.index = index


class InvalidMoves(InputError):
    """The moves of a row are not as required."""

    def __init__(self, index):
        self.index = index


class InvalidConditions(InputError):
    """The conditions are not as required."""

    def __init__(self, index):
        self.index = index


class InvalidOperations(InputError):
    """The operations are not as required."""

    def __init__(self, index):
        self.index = index


class InvalidEdit(InputError):
    """An edit of a workshop is none."""

    def __init__(self, index):
        self.index = index


class InvalidBody(InputError):
    """A statement uses a name otherwise than it may."""

    def __init__(self, place):
        self.place = place


class StateError(LookupError):
    """What was asked for is not to be had in the present state."""


class NotAllowed(StateError):
    """The start or the call is not allowed with these values."""

    def __init__(self, value):
        self.value = value


class UnknownName(StateError):
    """Nothing has this name."""

    def __init__(self, name):
        self.name = name


class NameTaken(StateError):
    """Something has this name already."""

    def __init__(self, name):
        self.name = name


class NoView(StateError):
    """The state has no view."""


class NothingToUndo(StateError):
    """There is nothing left to take back."""


class Busy(StateError):
    """A watch is running, which may not change the workshop."""


class RunError(RuntimeError):
    """A run or a judgement ended badly."""


class Stopped(RunError):
    """A run stopped at this place, with this kind of stop."""

    def __init__(self, place, kind):
        self.place = place
        self.kind = kind


class NotRight(RunError):
    """An operation or a container has this problem."""

    def __init__(self, place, kind):
        self.place = place
        self.kind = kind


class NotComparable(RunError):
    """Two operations have other containers, sizes, inputs or outputs."""


class Unlike(RunError):
    """Two operations are not alike, as these values show."""

    def __init__(self, value):
        self.value = value


class BrokenLimit(RunError):
    """A limit does not bound the operation of this name."""

    def __init__(self, name):
        self.name = name


class TargetsMeet(RunError):
    """The targets of these two moves share a cell."""

    def __init__(self, first, second):
        self.first = first
        self.second = second


class LimitError(ArithmeticError):
    """Something is greater than it may be."""


class TooMany(LimitError):
    """There is more than this limit lets."""

    def __init__(self, limit):
        self.limit = limit
