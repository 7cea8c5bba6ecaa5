"""Walks through bodies, with forms in the place of numbers (point 16 of the document)."""

from blockmoves.containers import lengths_in
from blockmoves.forms import Form, put_in
from blockmoves.paths import paths_along
from blockmoves.plans import case_plan, not_below_zero, own_table, ways_in
from blockmoves.statements import If, Let, Resize, condition_against, size_of


class Course:
    """What a run has come to.

    `present` has the present form of each unknown, `lengths` the present
    length of each array, input and output. `moves` has a pair for each move so
    far: the statement, and its forms with present forms (for a Resize the old
    length alone). `cost` is the number of cells that they wrote.
    """

    def __init__(self, operation, present, lengths, moves, cost):
        self.operation = operation
        self.present = present
        self.lengths = lengths
        self.moves = moves
        self.cost = cost

    def now(self, form):
        """The form with present forms."""
        return put_in(form, self.present)

    def length_of(self, array):
        """The present length of an array, input or output."""
        return self.lengths[array]

    def after(self, statement):
        """The course that has gone on by a statement other than an If."""
        if isinstance(statement, Let):
            present = {**self.present, statement.field: self.now(statement.form)}
            return Course(self.operation, present, self.lengths, self.moves, self.cost)
        cost = self.cost + statement.written(self)
        if isinstance(statement, Resize):
            return self.resized(statement, cost)
        forms = tuple([self.now(form) for form in statement.forms])
        return Course(self.operation, self.present, self.lengths, self.moves + ((statement, forms),), cost)

    def resized(self, statement, cost):
        field = dict(self.operation.container.arrays)[statement.array]
        length = self.now(statement.length)
        move = (statement, (self.lengths[statement.array],))
        present = {**self.present, field: length}
        lengths = {**self.lengths, statement.array: length}
        return Course(self.operation, present, lengths, self.moves + (move,), cost)


class Walk:
    """A path that goes through a body; `case` is the number of the case before."""

    def __init__(self, path, case, course):
        self.path = path
        self.case = case
        self.course = course


class Tour:
    """All walks through the body of an operation.

    `stopped` has a triple (place, kind, path) for each stop, and `arrivals` a
    pair (place, walk) for each statement that a walk comes to.
    """

    def __init__(self):
        self.stopped = []
        self.arrivals = []

    def through(self, statements, place, walks):
        """The walks behind the statements, the first of which stands at the place."""
        for statement in statements:
            self.arrivals.extend([(place, walk) for walk in walks])
            if isinstance(statement, If):
                walks = self.through_branches(statement, place, walks)
            else:
                walks = [after for walk in walks for after in self.past_one(statement, place, walk)]
            place = place + statement.size
        return walks

    def through_branches(self, statement, place, walks):
        behind = []
        for walk in walks:
            there, elsewhere = [_onward(walk, ways_in(statement.condition, truth, walk.course.present))
                                for truth in (True, False)]
            behind.extend(self.through(statement.then, place + 1, there))
            behind.extend(self.through(statement.otherwise, place + 1 + size_of(statement.then), elsewhere))
        return behind

    def past_one(self, statement, place, walk):
        """The walks that the statement does not stop."""
        paths = [walk.path]
        for kind, comparisons in statement.stops(walk.course):
            condition = condition_against(kind, comparisons)
            stops = paths_along(paths, [condition.listing(False)])
            self.stopped.extend([(place, kind, path) for path in stops])
            paths = paths_along(paths, [condition.listing(True)])
        course = walk.course.after(statement)
        return [Walk(path, walk.case, course) for path in paths]


def beginnings(operation, premises, path):
    """The walks that stand in front of the body, the premises being met."""
    cases = operation.container.cases
    course = first_course(operation)
    buffers = [length for _, length in operation.inputs + operation.outputs]
    called = [ways_in(premise, True, course.present) for premise in premises] + [[not_below_zero(buffers)]]
    kept = path.onward(ways_in(operation.container.invariant, True, course.present))
    walks = []
    for case in range(len(cases)):
        plan = case_plan(cases, case, course.present, course.lengths) + called
        walks.extend([Walk(begun, case, course) for begun in paths_along(kept, plan)])
    return walks


def first_course(operation):
    """The course in front of the body."""
    present = own_table(operation.unknowns)
    lengths = lengths_in(operation.container, present)
    for name, length in operation.inputs + operation.outputs:
        lengths[name] = length
    return Course(operation, present, lengths, (), Form())


def whole_walks(operation, path):
    """The walks behind the body."""
    return Tour().through(operation.body, 0, beginnings(operation, [operation.premise], path))


def arrivals_in(operation, path):
    """The pairs (place, walk) for all statements that walks come to."""
    tour = Tour()
    tour.through(operation.body, 0, beginnings(operation, [operation.premise], path))
    return tour.arrivals


def _onward(walk, ways):
    return [Walk(path, walk.case, walk.course) for path in walk.path.onward(ways)]
