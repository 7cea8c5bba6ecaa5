"""Conditions and their ways (points 7 and 8 of the document)."""

from blockmoves.errors import InvalidText, InvalidTruth, NotACondition, TooMany
from blockmoves.forms import check_form, form_in_text, table_of, worth_of
from blockmoves.limits import MAX_DEPTH, MAX_PARTS


class Condition:
    """What all kinds of conditions have in common.

    `forms` has the two forms of an atom, `conditions` those inside another
    condition; one of both is empty. Each kind has its own `is_met(table)`,
    whether it holds for the values of a dict, and `listing(truth)`, the list
    of its true or false ways.
    """

    WORD = ""

    def __init__(self, forms, conditions):
        self.forms = forms
        self.conditions = conditions
        self.symbols = tuple(sorted({symbol for part in forms + conditions for symbol in part.symbols}))
        self.parts = 1 + sum([part.parts for part in conditions])
        self.depth = 1 + max([part.depth for part in conditions], default=0)
        if self.parts > MAX_PARTS:
            raise TooMany(MAX_PARTS)
        if self.depth > MAX_DEPTH:
            raise TooMany(MAX_DEPTH)

    def ways(self, truth):
        """Yields the true ways for True, the false ways for False, as a listing."""
        if truth is not True and truth is not False:
            raise InvalidTruth(truth)
        yield from self.listing(truth)

    def __call__(self, values):
        return self.is_met(table_of(values, self.symbols))

    def __and__(self, other):
        return All(self, other)

    def __or__(self, other):
        return Any(self, other)

    def __invert__(self):
        return Not(self)

    def __eq__(self, other):
        return isinstance(other, Condition) and str(self) == str(other)

    def __str__(self):
        if self.forms:
            return f"{str(self.forms[0])} {self.WORD} {str(self.forms[1])}"
        return f"{self.WORD}({_listed(self.conditions)})"

    def __repr__(self):
        return f"Condition({str(self)})"


class Below(Condition):
    """The first form is less than the second one."""

    WORD = "<"

    def __init__(self, first, second):
        super().__init__(_checked_forms(first, second), ())

    def is_met(self, table):
        first, second = self.forms
        return worth_of(first, table) < worth_of(second, table)

    def listing(self, truth):
        first, second = self.forms
        return [((second - first, True),)] if truth else [((first - second, False),)]


class Upto(Condition):
    """The first form is at most the second one."""

    WORD = "<="

    def __init__(self, first, second):
        super().__init__(_checked_forms(first, second), ())

    def is_met(self, table):
        first, second = self.forms
        return worth_of(first, table) <= worth_of(second, table)

    def listing(self, truth):
        first, second = self.forms
        return [((second - first, False),)] if truth else [((first - second, True),)]


class Same(Condition):
    """Both forms are equal."""

    WORD = "="

    def __init__(self, first, second):
        super().__init__(_checked_forms(first, second), ())

    def is_met(self, table):
        first, second = self.forms
        return worth_of(first, table) == worth_of(second, table)

    def listing(self, truth):
        first, second = self.forms
        return All(Upto(first, second), Upto(second, first)).listing(truth)


class Not(Condition):
    """The condition does not hold."""

    WORD = "not"

    def __init__(self, condition):
        super().__init__((), _checked_conditions((condition,)))

    def is_met(self, table):
        return not self.conditions[0].is_met(table)

    def listing(self, truth):
        return self.conditions[0].listing(not truth)


class All(Condition):
    """Each of the conditions holds; true without any."""

    WORD = "all"

    def __init__(self, *conditions):
        super().__init__((), _checked_conditions(conditions))

    def is_met(self, table):
        return all([part.is_met(table) for part in self.conditions])

    def listing(self, truth):
        """As point 8 orders them: true ways of a condition come first."""
        found = [()] if truth else []
        for part in reversed(self.conditions):
            ended = [] if truth else part.listing(False)
            found = _joined(part.listing(True), found) + ended
        return found


class Any(Condition):
    """One of the conditions holds; false without any."""

    WORD = "any"

    def __init__(self, *conditions):
        super().__init__((), _checked_conditions(conditions))

    def is_met(self, table):
        return any([part.is_met(table) for part in self.conditions])

    def listing(self, truth):
        """As point 8 orders them: true ways of a condition come first."""
        found = [] if truth else [()]
        for part in reversed(self.conditions):
            ended = part.listing(True) if truth else []
            found = ended + _joined(part.listing(False), found)
        return found


def check_condition(value):
    """Raises NotACondition if the value is no condition."""
    if not isinstance(value, Condition):
        raise NotACondition(value)


def is_condition_on(value, symbols):
    """Whether any value is a condition with none but these symbols."""
    return isinstance(value, Condition) and all([symbol in symbols for symbol in value.symbols])


def read_condition(text):
    """The condition with this text."""
    condition = _condition_in_text(text, MAX_DEPTH) if isinstance(text, str) else None
    if condition is None or str(condition) != text:
        raise InvalidText(text)
    return condition


def _listed(conditions):
    return ", ".join([str(condition) for condition in conditions])


def _checked_forms(first, second):
    check_form(first)
    check_form(second)
    return first, second


def _checked_conditions(conditions):
    for condition in conditions:
        check_condition(condition)
    return conditions


def _joined(heads, tails):
    """Each of the first ways with each of the second ones behind it."""
    return [head + tail for head in heads for tail in tails]


def _condition_in_text(text, depth):
    """The condition whose text this may be, or None, as form_in_text does it.

    None, too, if the depth would be exceeded, so that brackets inside one
    another, however many, do not lead ever deeper.
    """
    if depth == 0:
        return None
    word, bracket, rest = text.partition("(")
    if not bracket:
        return _atom_in_text(text)
    parts = [_condition_in_text(part, depth - 1) for part in _texts_inside(rest[:-1])]
    if any([part is None for part in parts]):
        return None
    try:
        return _compound_of(word, parts)
    except TooMany:
        return None


def _compound_of(word, parts):
    if word == All.WORD:
        return All(*parts)
    if word == Any.WORD:
        return Any(*parts)
    if word == Not.WORD and len(parts) == 1:
        return Not(parts[0])
    return None


def _atom_in_text(text):
    for word in (Below.WORD, Upto.WORD, Same.WORD):
        left, middle, right = text.partition(f" {word} ")
        if middle:
            return _atom_of(word, form_in_text(left), form_in_text(right))
    return None


def _atom_of(word, first, second):
    if first is None or second is None:
        return None
    if word == Below.WORD:
        return Below(first, second)
    if word == Upto.WORD:
        return Upto(first, second)
    return Same(first, second)


def _texts_inside(text):
    """The texts between those commas that stand outside of all brackets."""
    if text == "":
        return []
    texts = []
    start = 0
    level = 0
    for at, sign in enumerate(text):
        if sign == "(":
            level += 1
        elif sign == ")":
            level -= 1
        elif sign == "," and level == 0:
            texts.append(text[start:at])
            start = at + 2
    texts.append(text[start:])
    return texts
