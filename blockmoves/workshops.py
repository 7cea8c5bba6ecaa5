"""Workshops: containers whose operations stay right, and within their limits, while they are edited."""

from blockmoves.alike import find_difference
from blockmoves.checks import is_fraction, is_measure, is_operation_on
from blockmoves.claims import Bounding
from blockmoves.conditions import All
from blockmoves.containers import find_unsound
from blockmoves.errors import BrokenLimit, Busy, InvalidEdit, NameTaken, NotAForm, NothingToUndo, NotRight
from blockmoves.errors import UnknownName, Unlike
from blockmoves.forms import Form, is_form_on
from blockmoves.judging import problems
from blockmoves.paths import call_search


class Workshop:
    """A sound container, right operations by their names, and limits on their costs.

    `table` has the operations and `limits` the limits, by the names. Neither
    dict is ever changed: an edit puts new ones in their place, so that `past`
    can have what they were before each edit of the history.
    """

    def __init__(self, container):
        unsound = find_unsound(container)
        if unsound is not None:
            raise NotRight(None, unsound[0])
        self.container = container
        self.table = {}
        self.limits = {}
        self.names = ()
        self.history = ()
        self.past = ()
        self.is_watched = False

    def do(self, edit):
        """Does an edit."""
        self.check_free()
        self.check_edits((edit,))
        self.perform(edit)

    def do_all(self, *edits, watch=None):
        """Does all edits in order, or none; `watch` is called with the workshop and the index behind each of them."""
        self.check_free()
        self.check_edits(edits)
        table, limits, names, history, past = self.table, self.limits, self.names, self.history, self.past
        done = None
        try:
            for index, edit in enumerate(edits):
                self.perform(edit)
                if watch is not None:
                    self.is_watched = True
                    watch(self, index)
                    self.is_watched = False
            done = True
        finally:
            self.is_watched = False
            if done is None:
                self.table, self.limits, self.names, self.history, self.past = table, limits, names, history, past

    def undo(self):
        """Takes back the last edit."""
        self.check_free()
        if not self.past:
            raise NothingToUndo()
        self.table, self.limits = self.past[-1]
        self.names = tuple(sorted(self.table))
        self.past = self.past[:-1]
        self.history = self.history[:-1]

    def operation(self, name):
        """The operation of this name."""
        self.check_known(name)
        return self.table[name]

    def limit_of(self, name):
        """The pair of a form and a fraction that is the limit of this operation, or None."""
        self.check_known(name)
        return self.limits.get(name)

    def check_known(self, name):
        """Raises UnknownName if any value is no name of an operation."""
        if name not in self:
            raise UnknownName(name)

    def check_free(self):
        """Raises Busy while a watch runs."""
        if self.is_watched:
            raise Busy()

    def check_edits(self, edits):
        """Raises InvalidEdit with the index of the first value that is no edit."""
        for index, edit in enumerate(edits):
            if not _is_edit(edit, self.container):
                raise InvalidEdit(index)

    def perform(self, edit):
        """Does what is an edit; raises an error and changes nothing if it may not be done."""
        table, limits = self.tables_after(edit)
        self.past = self.past + ((self.table, self.limits),)
        self.history = self.history + (edit,)
        self.table = table
        self.limits = limits
        self.names = tuple(sorted(table))

    def tables_after(self, edit):
        """New dicts of the operations and of the limits."""
        word, *parts = edit
        if word == "add":
            return self.tables_with(parts[0])
        if word == "replace":
            return self.tables_replaced(parts[0])
        if word == "remove":
            self.check_known(parts[0])
            return _without(self.table, parts[0]), _without(self.limits, parts[0])
        name, form, fraction = parts
        if not is_form_on(form, self.operation(name).unknowns):
            raise NotAForm(form)
        _check_limit(self.operation(name), form, fraction)
        return self.table, {**self.limits, name: (form, fraction)}

    def tables_with(self, operation):
        if operation.name in self:
            raise NameTaken(operation.name)
        _check_right(operation)
        return {**self.table, operation.name: operation}, self.limits

    def tables_replaced(self, operation):
        old, limit = self.operation(operation.name), self.limit_of(operation.name)
        _check_right(operation)
        difference = find_difference(old, operation)
        if difference is not None:
            raise Unlike(difference)
        if limit is not None:
            form, fraction = limit
            _check_limit(operation, form, fraction)
        return {**self.table, operation.name: operation}, self.limits

    def __contains__(self, value):
        return isinstance(value, str) and value in self.table

    def __iter__(self):
        return iter(self.names)

    def __eq__(self, other):
        return self is other

    def __len__(self):
        return len(self.names)

    def __repr__(self):
        return f"Workshop({len(self.names)} operations)"


def _is_edit(value, container):
    """Whether any value is an edit of a workshop with this container."""
    if not isinstance(value, tuple) or len(value) < 2 or not isinstance(value[0], str):
        return False
    word, *parts = value
    if word in ("add", "replace"):
        return len(parts) == 1 and is_operation_on(parts[0], container)
    if word == "remove":
        return len(parts) == 1 and isinstance(parts[0], str)
    if word != "limit" or len(parts) != 3:
        return False
    name, form, fraction = parts
    return isinstance(name, str) and is_measure(form) and is_fraction(fraction)


def _check_right(operation):
    for place, kind, _ in problems(operation):
        raise NotRight(place, kind)


def _check_limit(operation, form, fraction):
    """Raises BrokenLimit if the fraction does not bound the operation."""
    bounding = Bounding(operation, ((All(), Form()),), form, fraction)
    if bounding.open_end(call_search(operation)) is not None:
        raise BrokenLimit(operation.name)


def _without(table, name):
    return {own: table[own] for own in table if own != name}
