"""What claims are about (point 24 of the document).

Each subject has `unknowns`, the symbols that its facts have beside `@`. What
can be proved has `texts`, the parts of its claims behind the first word, and
`open_end(path)`, the first path to one of its demands that is left, or None.
What can be shown by an example has `is_shown_by(values)`.
"""

from blockmoves.containers import unsound_plans
from blockmoves.paths import paths_along
from blockmoves.shows import shown_problems, shows_breach, shows_difference, shows_excess
from blockmoves.troubles import breaking_paths, dear_paths, difference_paths, problem_paths


class Rightness:
    """That an operation is right."""

    def __init__(self, operation):
        self.operation = operation
        self.texts = _texts_of(operation)
        self.unknowns = operation.unknowns

    def open_end(self, path):
        """The first path that is left, or None."""
        for _, _, end in problem_paths(self.operation, path):
            return end
        return None


class Problem:
    """That an operation has a problem at a place, of a kind."""

    def __init__(self, operation, place, kind):
        self.operation = operation
        self.place = place
        self.kind = kind
        self.unknowns = operation.unknowns

    def is_shown_by(self, values):
        """Whether the call with these values has the problem."""
        return (self.place, self.kind) in shown_problems(self.operation, values)


class Likeness:
    """That two operations are alike."""

    def __init__(self, first, second, by):
        self.first = first
        self.second = second
        self.by = by
        self.texts = _texts_of(first) + (str(second), by)
        self.unknowns = first.unknowns

    def open_end(self, path):
        """The first path that is left, or None."""
        for _, end in difference_paths(self.first, self.second, self.by, path):
            return end
        return None

    def is_shown_by(self, values):
        """Whether the values show that they are not alike."""
        return shows_difference(self.first, self.second, self.by, values)


class Keeping:
    """That an operation keeps a condition."""

    def __init__(self, operation, condition):
        self.operation = operation
        self.condition = condition
        self.texts = _texts_of(operation) + (str(condition),)
        self.unknowns = operation.unknowns

    def open_end(self, path):
        """The first path that is left, or None."""
        for end in breaking_paths(self.operation, self.condition, path):
            return end
        return None

    def is_shown_by(self, values):
        """Whether the values show that the condition is not kept."""
        return shows_breach(self.operation, self.condition, values)


class Bounding:
    """That a fraction bounds an operation, with a potential and a form."""

    def __init__(self, operation, potential, form, fraction):
        self.operation = operation
        self.potential = potential
        self.form = form
        self.fraction = fraction
        pairs = tuple([(str(condition), str(own)) for condition, own in potential])
        self.texts = _texts_of(operation) + (pairs, str(form), fraction)
        self.unknowns = operation.unknowns

    def open_end(self, path):
        """The first path that is left, or None."""
        for end in dear_paths(self.operation, self.potential, self.form, self.fraction, path):
            return end
        return None

    def is_shown_by(self, values):
        """Whether the values show that the fraction does not bound the operation."""
        return shows_excess(self.operation, self.potential, self.form, self.fraction, values)


class Soundness:
    """That a container is sound."""

    def __init__(self, container):
        self.container = container
        self.texts = (str(container),)
        self.unknowns = tuple(sorted(set(container.parameters + container.fields)))

    def open_end(self, path):
        """The first path that is left, or None."""
        for plan in unsound_plans(self.container):
            for end in paths_along([path], plan):
                return end
        return None


def _texts_of(operation):
    return str(operation.container), str(operation)
