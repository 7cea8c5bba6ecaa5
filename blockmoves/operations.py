"""Operations on containers (points 11 to 13 and 15 of the document)."""

from blockmoves.bodies import statements_in
from blockmoves.conditions import All, is_condition_on
from blockmoves.containers import check_container
from blockmoves.errors import InputError, InvalidBody, InvalidCount, InvalidInputs, InvalidOutputs, InvalidPremise
from blockmoves.errors import InvalidResults, InvalidSizes, InvalidText, InvalidView, NotAnOperation, TooMany
from blockmoves.forms import check_name, is_form_on, is_integer, is_new_name
from blockmoves.limits import MAX_IFS, MAX_MOVES, MAX_STATEMENTS, MAX_SYMBOLS
from blockmoves.pieces import MOST_PIECES, is_list_of_pieces, is_piece, piece_in_text, piece_text
from blockmoves.statements import Copy, If, Let, Resize, Statement, Swap, flattened
from blockmoves.statements import ifs_of, indented, moves_of, size_of
from blockmoves.texts import condition_below, lines_below, pair_in, rests_of, sections_of

_MOST_BUFFERS = 2


class Operation:
    """A body of statements for a container, with a premise and a promise.

    `statements` are all its statements in the order of their places.
    """

    def __init__(self, container, name, *, sizes=(), inputs=(), outputs=(), premise=None, body=(), view=(), results=()):
        check_container(container)
        check_name(name)
        _check_sizes(sizes, container)
        unknowns = tuple(sorted(container.fields + sizes))
        _check_inputs(inputs, _names_in(container) + sizes, unknowns)
        _check_outputs(outputs, _names_in(container) + sizes + _names_of(inputs), unknowns)
        if premise is not None and not is_condition_on(premise, unknowns):
            raise InvalidPremise(premise)
        self.container = container
        self.name = name
        self.sizes = sizes
        self.inputs = inputs
        self.outputs = outputs
        self.premise = All() if premise is None else premise
        self.unknowns = unknowns
        _check_body(body, self)
        lists = ("view",) + _names_of(inputs)
        _check_view(view, lists, unknowns)
        _check_results(results, lists, self)
        self.body = body
        self.view = view
        self.results = results
        self.statements = tuple(flattened(body))
        self.places = len(self.statements)
        self.lines = tuple(_lines_of(self))

    @staticmethod
    def read(container, text):
        """The operation on the container with this text."""
        return read_operation(container, text)

    def statement(self, place):
        """The statement at this place."""
        if not is_integer(place) or not 0 <= place < self.places:
            raise InvalidCount(place)
        return self.statements[place]

    def __eq__(self, other):
        return isinstance(other, Operation) and self.container == other.container and self.lines == other.lines

    def __str__(self):
        return "\n".join(self.lines)

    def __repr__(self):
        return f"Operation({self.name})"


def read_operation(container, text):
    """The operation on the container with this text."""
    check_container(container)
    operation = _operation_in_text(container, text) if isinstance(text, str) else None
    if operation is None or str(operation) != text:
        raise InvalidText(text)
    return operation


def check_operation(value):
    """Raises NotAnOperation if the value is no operation."""
    if not isinstance(value, Operation):
        raise NotAnOperation(value)


def _names_of(pairs):
    return tuple([name for name, _ in pairs])


def _names_in(container):
    return _names_of(container.arrays) + container.fields


def _check_sizes(sizes, container):
    if not isinstance(sizes, tuple) or len(sizes) + len(container.fields) > MAX_SYMBOLS:
        raise InvalidSizes(None)
    for at, name in enumerate(sizes):
        if not is_new_name(name, _names_in(container) + sizes[:at]):
            raise InvalidSizes(at)


def _check_inputs(inputs, names, unknowns):
    if not isinstance(inputs, tuple) or len(inputs) > _MOST_BUFFERS:
        raise InvalidInputs(None)
    for at, pair in enumerate(inputs):
        if not _is_buffer(pair, names + _names_of(inputs[:at]), unknowns):
            raise InvalidInputs(at)


def _check_outputs(outputs, names, unknowns):
    if not isinstance(outputs, tuple) or len(outputs) > _MOST_BUFFERS:
        raise InvalidOutputs(None)
    for at, pair in enumerate(outputs):
        if not _is_buffer(pair, names + _names_of(outputs[:at]), unknowns):
            raise InvalidOutputs(at)


def _is_buffer(pair, names, unknowns):
    """Whether any value is the pair of a new name and a length."""
    if not isinstance(pair, tuple) or len(pair) != 2:
        return False
    return is_new_name(pair[0], names) and is_form_on(pair[1], unknowns)


def _check_body(body, operation):
    if not isinstance(body, tuple) or not all([isinstance(statement, Statement) for statement in body]):
        raise InvalidBody(None)
    for place, statement in enumerate(flattened(body)):
        if not _is_in_place(statement, operation):
            raise InvalidBody(place)
    if size_of(body) > MAX_STATEMENTS:
        raise TooMany(MAX_STATEMENTS)
    if moves_of(body) > MAX_MOVES:
        raise TooMany(MAX_MOVES)
    if ifs_of(body) > MAX_IFS:
        raise TooMany(MAX_IFS)


def _is_in_place(statement, operation):
    """Whether the statement uses names and symbols as point 12 says, those inside it aside."""
    if isinstance(statement, If):
        return is_condition_on(statement.condition, operation.unknowns)
    if not all([is_form_on(form, operation.unknowns) for form in statement.forms]):
        return False
    arrays = _names_of(operation.container.arrays)
    if isinstance(statement, Let):
        lengths = [length for _, length in operation.container.arrays]
        return statement.field in operation.container.fields and statement.field not in lengths
    if isinstance(statement, Resize):
        return statement.array in arrays
    written = arrays + _names_of(operation.outputs)
    if isinstance(statement, Copy):
        return statement.target in written and statement.source in written + _names_of(operation.inputs)
    if isinstance(statement, Swap):
        return statement.first in written and statement.second in written
    return statement.array in written


def _check_view(view, lists, unknowns):
    if not isinstance(view, tuple) or len(view) > MOST_PIECES:
        raise InvalidView(None)
    for at, piece in enumerate(view):
        if not is_piece(piece, lists, unknowns):
            raise InvalidView(at)


def _check_results(results, lists, operation):
    if not isinstance(results, tuple) or len(results) != len(operation.outputs):
        raise InvalidResults(None)
    for at, pieces in enumerate(results):
        if not is_list_of_pieces(pieces, lists, operation.unknowns):
            raise InvalidResults(at)


def _lines_of(operation):
    rows = [f"operation {operation.name}"]
    rows.extend([f"size {name}" for name in operation.sizes])
    rows.extend([f"input {name} {str(length)}" for name, length in operation.inputs])
    rows.extend([f"output {name} {str(length)}" for name, length in operation.outputs])
    rows.extend([f"premise {str(operation.premise)}", "body", *indented(operation.body), "view"])
    rows.extend(["  " + piece_text(piece) for piece in operation.view])
    for (name, _), pieces in zip(operation.outputs, operation.results):
        rows.append(f"result {name}")
        rows.extend(["  " + piece_text(piece) for piece in pieces])
    return rows


def _operation_in_text(container, text):
    """The operation whose text this may be, or None."""
    sections = sections_of(text)
    try:
        return Operation(
            container,
            " ".join(rests_of(sections, "operation")),
            sizes=tuple(rests_of(sections, "size")),
            inputs=tuple([pair_in(rest, " ") for rest in rests_of(sections, "input")]),
            outputs=tuple([pair_in(rest, " ") for rest in rests_of(sections, "output")]),
            premise=condition_below(sections, "premise"),
            body=statements_in(lines_below(sections, "body")),
            view=tuple([piece_in_text(line) for line in lines_below(sections, "view")]),
            results=tuple([tuple([piece_in_text(line) for line in lines])
                           for word, _, lines in sections if word == "result"]))
    except (InputError, TooMany):
        return None
