"""The search for values of facts, from corner to corner (point 9 of the document).

All arithmetic is exact: only integers, with one common denominator.
"""

from math import gcd


class Corner:
    """The point at which the search for values of some facts stands.

    `rows` has a pair (factors, strict) for each row: first a unit row for each
    symbol, which says that it is from 0 on, then the facts. As many rows as
    there are symbols are `tight`: at the point a strict one has the value 1,
    any other one 0. `columns` is `scale` times the inverse of the tight rows,
    and the point, `scale` times as great, is `point`. A row holds if its value
    at the point is at least 1 or, if not strict, 0. Since the facts have no
    constants this asks nothing more than that a strict one is above 0.
    `refutation` is None as long as all rows hold at the point; otherwise it
    has a multiplier for each fact.
    """

    def __init__(self, symbols):
        units = [tuple([1 if one == other else 0 for other in symbols]) for one in symbols]
        self.symbols = symbols
        self.rows = [(unit, False) for unit in units]
        self.tight = list(range(len(units)))
        self.columns = units
        self.scale = 1
        self.point = [0 for _ in units]
        self.refutation = None

    def joined(self, facts):
        """The corner for the facts so far and these ones."""
        corner = Corner(self.symbols)
        corner.rows = self.rows + [(_factors_of(form, self.symbols), strict) for form, strict in facts]
        corner.tight = list(self.tight)
        corner.columns = self.columns
        corner.scale = self.scale
        corner.point = self.point
        corner.settle(len(self.rows))
        return corner

    def settle(self, start):
        """Goes from corner to corner until all rows hold, or until one is refuted.

        It is always the first row that does not hold, and the first tight row
        that may give way to it, so that no corner is met again (Bland's rule).
        The rows in front of `start` hold at the beginning.
        """
        broken = self.first_broken(start)
        while broken is not None:
            factors, _ = self.rows[broken]
            shares = [_product_of(factors, column) for column in self.columns]
            leaving = self.first_leaving(shares)
            if leaving is None:
                self.refutation = self.multipliers(broken, shares)
                return
            self.turn(broken, leaving, shares)
            broken = self.first_broken(0)

    def first_broken(self, start):
        """The first row from `start` on that does not hold at the point; None if all hold."""
        for at in range(start, len(self.rows)):
            factors, strict = self.rows[at]
            if _product_of(factors, self.point) < (self.scale if strict else 0):
                return at
        return None

    def first_leaving(self, shares):
        """The place of the first tight row whose growth lets the broken one grow, or None."""
        places = [place for place, share in enumerate(shares) if share > 0]
        return min(places, key=lambda place: self.tight[place], default=None)

    def turn(self, broken, leaving, shares):
        """Makes the broken row tight in the place of the leaving one."""
        pivot = shares[leaving]
        gone = self.columns[leaving]
        columns = []
        for place, column in enumerate(self.columns):
            if place == leaving:
                columns.append(column)
            else:
                # Without rest: these are minors of the tight rows (Edmonds).
                columns.append(tuple([(pivot * own - shares[place] * other) // self.scale
                                      for own, other in zip(column, gone)]))
        self.columns = columns
        self.scale = pivot
        self.tight[leaving] = broken
        self.point = self.new_point()

    def new_point(self):
        strict_columns = [self.columns[place] for place, row in enumerate(self.tight) if self.rows[row][1]]
        return [sum([column[at] for column in strict_columns]) for at in range(len(self.symbols))]

    def multipliers(self, broken, shares):
        """A refutation: the broken row is a sum of tight ones, none of them taken above 0 times."""
        many = [0 for _ in self.rows]
        many[broken] = self.scale
        for place, share in enumerate(shares):
            many[self.tight[place]] = -share
        return _shortened(many[len(self.symbols):])

    def answer(self):
        """Values of the symbols with which all facts hold."""
        return tuple(list(zip(self.symbols, _shortened(self.point))))


def corner_of(facts, symbols):
    """Where the search for values of the facts ends; the symbols are those of all facts at least."""
    return Corner(symbols).joined(facts)


def _factors_of(form, symbols):
    factors = dict(form.terms)
    return tuple([factors.get(symbol, 0) for symbol in symbols])


def _product_of(first, second):
    return sum([one * other for one, other in zip(first, second)])


def _shortened(numbers):
    """The integers divided by their greatest common divisor."""
    common = 0
    for number in numbers:
        common = gcd(common, number)
    return tuple([number // max(common, 1) for number in numbers])
