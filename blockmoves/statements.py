"""The statements of a body (point 12 of the document).

What a statement asks of the state in which it is run is told by `stops`: a
list of pairs (kind, comparisons), in the order in which they are looked at.
For the kinds "clobber" and "overlap" there is a stop if all of the
comparisons (F, G) hold as F < G, for the other kinds if not all of them hold
as F <= G. The state is a run on cells or the course of a walk: `state.now(form)`
is the present value or the present form, `state.length_of(array)` the length.
"""

from blockmoves.conditions import All, Below, Not, Upto, check_condition
from blockmoves.errors import InvalidBranch, InvalidLetter, TooMany
from blockmoves.forms import Form, check_form, check_name, is_integer
from blockmoves.limits import MAX_IFS


class Statement:
    """What all kinds of statements have in common.

    `forms` are the forms of a statement in the order of its arguments. `size`
    is the number of statements, those inside an If too; `moves` and `ifs` are
    how many of each a way through it meets at most, and `nesting` is how many
    Ifs stand inside one another.
    """

    WORD = ""

    def __init__(self, lines, forms, moves):
        self.lines = lines
        self.forms = forms
        self.size = 1
        self.moves = moves
        self.ifs = 0
        self.nesting = 0

    def __eq__(self, other):
        return isinstance(other, Statement) and self.lines == other.lines

    def __str__(self):
        return "\n".join(self.lines)

    def __repr__(self):
        return f"Statement({self.lines[0]})"


class Let(Statement):
    """The field gets the value of the form."""

    WORD = "let"

    def __init__(self, field, form):
        check_name(field)
        check_form(form)
        super().__init__((f"{self.WORD} {field} = {str(form)}",), (form,), 0)
        self.field = field
        self.form = form

    def stops(self, state):
        return [("field", [(state.now(Form()), state.now(self.form))])]

    def written(self, state):
        """The number of cells that it writes."""
        return state.now(Form())


class Copy(Statement):
    """Cells of the target become what cells of the source were before."""

    WORD = "copy"

    def __init__(self, target, to, source, start, amount):
        check_name(target)
        check_form(to)
        check_name(source)
        check_form(start)
        check_form(amount)
        line = f"{self.WORD} {_at(target, to)} {_at(source, start)} ({str(amount)})"
        super().__init__((line,), (to, start, amount), 1)
        self.target = target
        self.to = to
        self.source = source
        self.start = start
        self.amount = amount

    def stops(self, state):
        to, start, amount = [state.now(form) for form in self.forms]
        inside = _inside(state, self.target, to, amount) + _inside(state, self.source, start, amount)
        found = [_amount_stop(state, amount), ("range", inside)]
        if self.target == self.source:
            found.extend(self.meeting_stops(to, start, amount))
        return found

    def meeting_stops(self, to, start, amount):
        """Its further stop where target and source are one array."""
        return []

    def written(self, state):
        """The number of cells that it writes."""
        return state.now(self.amount)


class Up(Copy):
    """A Copy from the first cell on."""

    WORD = "up"

    def __init__(self, target, to, source, start, amount):
        super().__init__(target, to, source, start, amount)

    def meeting_stops(self, to, start, amount):
        """Its further stop where target and source are one array."""
        return [("clobber", [(start, to), (to, start + amount)])]


class Down(Copy):
    """A Copy from the last cell on."""

    WORD = "down"

    def __init__(self, target, to, source, start, amount):
        super().__init__(target, to, source, start, amount)

    def meeting_stops(self, to, start, amount):
        """Its further stop where target and source are one array."""
        return [("clobber", [(to, start), (start, to + amount)])]


class Apart(Copy):
    """A Copy of blocks that share no cell."""

    WORD = "apart"

    def __init__(self, target, to, source, start, amount):
        super().__init__(target, to, source, start, amount)

    def meeting_stops(self, to, start, amount):
        """Its further stop where target and source are one array."""
        return [_overlap_stop(to, start, amount)]


class Reverse(Statement):
    """Cells of the array in the reversed order."""

    WORD = "reverse"

    def __init__(self, array, start, amount):
        check_name(array)
        check_form(start)
        check_form(amount)
        super().__init__((f"{self.WORD} {_at(array, start)} ({str(amount)})",), (start, amount), 1)
        self.array = array
        self.start = start
        self.amount = amount

    def stops(self, state):
        return _block_stops(state, self.array, self.start, self.amount)

    def written(self, state):
        """The number of cells that it writes."""
        return state.now(self.amount)


class Swap(Statement):
    """Exchanges cells of the first array with cells of the second one."""

    WORD = "swap"

    def __init__(self, first, at, second, start, amount):
        check_name(first)
        check_form(at)
        check_name(second)
        check_form(start)
        check_form(amount)
        line = f"{self.WORD} {_at(first, at)} {_at(second, start)} ({str(amount)})"
        super().__init__((line,), (at, start, amount), 1)
        self.first = first
        self.at = at
        self.second = second
        self.start = start
        self.amount = amount

    def stops(self, state):
        at, start, amount = [state.now(form) for form in self.forms]
        inside = _inside(state, self.first, at, amount) + _inside(state, self.second, start, amount)
        found = [_amount_stop(state, amount), ("range", inside)]
        if self.first == self.second:
            found.append(_overlap_stop(at, start, amount))
        return found

    def written(self, state):
        """The number of cells that it writes."""
        return state.now(self.amount) * 2


class Fill(Statement):
    """Cells of the array become the letter."""

    WORD = "fill"

    def __init__(self, array, start, amount, letter):
        check_name(array)
        check_form(start)
        check_form(amount)
        if not is_integer(letter):
            raise InvalidLetter(letter)
        super().__init__((f"{self.WORD} {_at(array, start)} ({str(amount)}) {letter}",), (start, amount), 1)
        self.array = array
        self.start = start
        self.amount = amount
        self.letter = letter

    def stops(self, state):
        return _block_stops(state, self.array, self.start, self.amount)

    def written(self, state):
        """The number of cells that it writes."""
        return state.now(self.amount)


class Resize(Statement):
    """The array and its length field get the length."""

    WORD = "resize"

    def __init__(self, array, length):
        check_name(array)
        check_form(length)
        super().__init__((f"{self.WORD} {array} ({str(length)})",), (length,), 1)
        self.array = array
        self.length = length

    def stops(self, state):
        return [_amount_stop(state, state.now(self.length))]

    def written(self, state):
        """The number of cells that it writes."""
        return state.now(self.length)


class If(Statement):
    """The statements of `then` if the condition holds, else those of `otherwise`."""

    WORD = "if"

    def __init__(self, condition, then, otherwise=()):
        check_condition(condition)
        _check_branch(then)
        _check_branch(otherwise)
        inside = then + otherwise
        nesting = 1 + max([statement.nesting for statement in inside], default=0)
        if nesting > MAX_IFS:
            raise TooMany(MAX_IFS)
        super().__init__(_lines_of_if(condition, then, otherwise), (), max(moves_of(then), moves_of(otherwise)))
        self.size = 1 + size_of(inside)
        self.ifs = 1 + max(ifs_of(then), ifs_of(otherwise))
        self.nesting = nesting
        self.condition = condition
        self.then = then
        self.otherwise = otherwise


def is_stopped(kind, comparisons):
    """Whether there is this stop, where the comparisons are between values."""
    if kind in ("clobber", "overlap"):
        return all([one < other for one, other in comparisons])
    return not all([one <= other for one, other in comparisons])


def condition_against(kind, comparisons):
    """The condition that there is no such stop, where the comparisons are between forms."""
    if kind in ("clobber", "overlap"):
        below = [Below(one, other) for one, other in comparisons]
        return Not(All(*below))
    inside = [Upto(one, other) for one, other in comparisons]
    return All(*inside)


def size_of(statements):
    """The number of statements, those inside others too."""
    return sum([statement.size for statement in statements])


def moves_of(statements):
    """The number of moves that a way through the statements meets at most."""
    return sum([statement.moves for statement in statements])


def ifs_of(statements):
    """The number of Ifs that a way through the statements meets at most."""
    return sum([statement.ifs for statement in statements])


def flattened(statements):
    """The statements and those inside them, in the order of their places."""
    found = []
    for statement in statements:
        found.append(statement)
        if isinstance(statement, If):
            found.extend(flattened(statement.then + statement.otherwise))
    return found


def _check_branch(branch):
    if not isinstance(branch, tuple):
        raise InvalidBranch(None)
    for at, statement in enumerate(branch):
        if not isinstance(statement, Statement):
            raise InvalidBranch(at)


def _lines_of_if(condition, then, otherwise):
    rows = [f"{If.WORD} {str(condition)}"] + indented(then)
    if otherwise:
        rows = rows + ["else"] + indented(otherwise)
    return tuple(rows + ["end"])


def indented(statements):
    """The lines of the statements with two spaces in front of each."""
    return [f"  {line}" for statement in statements for line in statement.lines]


def _at(array, index):
    return f"{array}[{str(index)}]"


def _amount_stop(state, amount):
    return "amount", [(state.now(Form()), amount)]


def _inside(state, array, start, amount):
    """The comparisons that say that a block lies inside the array."""
    return [(state.now(Form()), start), (start + amount, state.length_of(array))]


def _overlap_stop(one, other, amount):
    return "overlap", [(one, other + amount), (other, one + amount)]


def _block_stops(state, array, start, amount):
    many = state.now(amount)
    return [_amount_stop(state, many), ("range", _inside(state, array, state.now(start), many))]
