"""Paths: the facts of the ways that were taken so far.

What tells demands is passed the path with which they begin. By an open path it
tells all of them, by a search those that have values, and by a proof those that
have none of the given refutations.
"""

from blockmoves.corners import Corner
from blockmoves.forms import MIDDLE
from blockmoves.refutations import fact_key


class Path:
    """An open path: nobody asks whether its facts have values."""

    def __init__(self, facts):
        self.facts = facts

    def onward(self, ways):
        """The paths that go on by one of the ways."""
        return [Path(self.facts + way) for way in ways]


class Search(Path):
    """A path that ends where its facts have no values; the book, if there is one, is told why."""

    def __init__(self, facts, corner, book):
        super().__init__(facts)
        self.corner = corner
        self.book = book

    def onward(self, ways):
        """The paths that go on by one of the ways."""
        paths = []
        for way in ways:
            path = Search(self.facts + way, self.corner.joined(way), self.book)
            if path.corner.refutation is None:
                paths.append(path)
            elif self.book is not None:
                self.book.note(path.facts, path.corner.refutation)
        return paths

    def solution(self):
        """Values of the symbols, `@` aside, for which all facts hold.

        Positions do not have to be multiplied: the facts that name `@` are
        strict, with the factor 1 or -1, so that they hold half a cell in front
        of an integer and half a cell behind it, too.
        """
        return tuple([pair for pair in self.corner.answer() if pair[0] != MIDDLE])


class Proof(Path):
    """A path that ends where all facts of a refutation are among its own; `held` has their keys."""

    def __init__(self, facts, held, refutations):
        super().__init__(facts)
        self.held = held
        self.refutations = refutations

    def onward(self, ways):
        """The paths that go on by one of the ways."""
        paths = []
        for way in ways:
            new = [fact_key(fact) for fact in way if fact_key(fact) not in self.held]
            held = {key: True for key in [*self.held, *new]}
            if not any([self.refutations.are_met(key, held) for key in new]):
                paths.append(Proof(self.facts + way, held, self.refutations))
        return paths


def open_path():
    """The open path without facts."""
    return Path(())


def search_path(symbols):
    """The search without facts for values of these symbols."""
    return Search((), Corner(symbols), None)


def call_search(operation):
    """The search without facts for values of the unknowns of an operation, and of `@`."""
    return search_path((MIDDLE,) + operation.unknowns)


def noted_search(unknowns, book):
    """The same for these unknowns; the book is told why paths end."""
    return Search((), Corner((MIDDLE,) + unknowns), book)


def proof_path(refutations):
    """The proof without facts."""
    return Proof((), {}, refutations)


def paths_along(paths, plan):
    """The paths that go on from these ones by one way of each step."""
    for ways in plan:
        paths = [path for before in paths for path in before.onward(ways)]
    return paths


def path_meeting(search, conditions):
    """A path on which the search goes on to where all conditions on the symbols hold, or None.

    Only the ways of conditions that do not hold where it stands are looked at,
    since all of many conditions together may have very many ways.
    """
    table = dict(search.solution())
    for condition in conditions:
        if not condition.is_met(table):
            return _first_meeting(search.onward(condition.listing(True)), conditions)
    return search


def _first_meeting(paths, conditions):
    for path in paths:
        found = path_meeting(path, conditions)
        if found is not None:
            return found
    return None
