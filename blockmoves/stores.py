"""Live containers, which calls change."""

from blockmoves.containers import check_container
from blockmoves.errors import NotAllowed, NotAnOperation, NotAStore, NothingToUndo, NoView, UnknownName
from blockmoves.forms import worth_of
from blockmoves.machines import has_buffers
from blockmoves.operations import check_operation
from blockmoves.runs import check_inputs, check_values, outcome_of, seen_in


class Store:
    """A state of a container, and the calls that led to it.

    `rows` has the cells of each array. `past` has a triple (fields, rows, cost)
    for each call of the history: what they were before it.
    """

    def __init__(self, container, values):
        check_container(container)
        check_values(values, tuple(sorted(container.parameters)))
        table = dict(values)
        fields = tuple([(field, worth_of(form, table)) for field, form in container.begin])
        if not container.premise.is_met(table) or any([worth < 0 for _, worth in fields]):
            raise NotAllowed(values)
        worths = dict(fields)
        self.container = container
        self.fields = fields
        self.rows = tuple([(0,) * worths[length] for _, length in container.arrays])
        self.cost = 0
        self.history = ()
        self.past = ()

    def do(self, operation, values, *inputs):
        """Makes a call and returns the tuple of its outputs."""
        check_operation(operation)
        if not operation.container == self.container:
            raise NotAnOperation(operation)
        check_values(values, tuple(sorted(operation.sizes)))
        table = dict(self.fields + values)
        if not operation.premise.is_met(table) or not has_buffers(operation, table):
            raise NotAllowed(values)
        check_inputs(operation, table, inputs)
        fields, rows, outputs, cost = outcome_of(operation, self.fields, self.rows, values, inputs)
        self.past = self.past + ((self.fields, self.rows, self.cost),)
        self.history = self.history + ((operation, values, inputs),)
        self.fields = fields
        self.rows = rows
        self.cost = self.cost + cost
        return outputs

    def undo(self):
        """Takes back the last call."""
        if not self.past:
            raise NothingToUndo()
        self.fields, self.rows, self.cost = self.past[-1]
        self.past = self.past[:-1]
        self.history = self.history[:-1]

    def cells(self, array):
        """The cells of an array."""
        for (name, _), row in zip(self.container.arrays, self.rows):
            if isinstance(array, str) and name == array:
                return row
        raise UnknownName(array)

    def shown(self):
        """The view."""
        view = seen_in(self.container, self.fields, self.rows)
        if view is None:
            raise NoView()
        return view

    def __eq__(self, other):
        return self is other

    def __len__(self):
        return len(self.history)

    def __repr__(self):
        return f"Store({len(self.fields)} fields, {len(self.history)} calls)"


class Trial:
    """For a `with` block at whose end the store is as it was at the beginning."""

    def __init__(self, store):
        if not isinstance(store, Store):
            raise NotAStore(store)
        self.store = store

    def __enter__(self):
        # The block begins only now, and the store may have changed since.
        store = self.store
        self.fields = store.fields
        self.rows = store.rows
        self.cost = store.cost
        self.history = store.history
        self.past = store.past
        return store

    def __exit__(self, kind, value, trace):
        store = self.store
        store.fields = self.fields
        store.rows = self.rows
        store.cost = self.cost
        store.history = self.history
        store.past = self.past


def tried(store, deed):
    """What the deed returns for the store, which is afterwards as it was before."""
    with Trial(store) as same:
        return deed(same)
