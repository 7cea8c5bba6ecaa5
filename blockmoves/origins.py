"""Where what stands at a position comes from (point 18 of the document).

An origin is a pair: the name of an array or input and the form of a cell of it,
or None and a letter. Origins are listed as pairs (facts, origin): with these
facts the position has this origin.
"""

from blockmoves.forms import MIDDLE, Form, form_of
from blockmoves.plans import stretches_in
from blockmoves.statements import Copy, Fill, Resize, Reverse


def view_origins(stretches, course):
    """The origins of the position `@` in a view after a run; the stretches have present forms."""
    at = _position()
    found = []
    for (facts, within), (array, first, last, turned) in zip(_in_blocks(_lengths_of(stretches), at), stretches):
        found.extend(_with_facts(facts, _cell_origins(array, _index_in(first, last, turned, within), course)))
    return _with_facts(_inside(_sum_of(_lengths_of(stretches)), at), found)


def row_origins(name, length, course):
    """The origins of the position `@` in an array or output of this length after a run."""
    at = _position()
    return _with_facts(_inside(length, at), _cell_origins(name, at, course))


def piece_origins(pieces, before):
    """The origins of the position `@` in pieces; `before` are the stretches of the view before the call."""
    at = _position()
    lengths = [piece_length(piece) for piece in pieces]
    found = []
    for (facts, within), piece in zip(_in_blocks(lengths, at), pieces):
        found.extend(_with_facts(facts, _origins_in_piece(piece, within, before)))
    return _with_facts(_inside(_sum_of(lengths), at), found)


def differences(origin, other):
    """The facts with which two origins can differ, one tuple for each meeting."""
    name, place = origin
    other_name, other_place = other
    if name is None and other_name is None:
        return [] if place == other_place else [()]
    if name != other_name or place.factor(MIDDLE) != other_place.factor(MIDDLE):
        return [()]
    return [((place - other_place, True),), ((other_place - place, True),)]


def piece_length(piece):
    """The length of the elements of a piece."""
    if piece[0] == "fill":
        return piece[2]
    return piece[3] - piece[2]


def view_length(stretches):
    """The length of the view with these stretches."""
    return _sum_of(_lengths_of(stretches))


def pieces_length(pieces):
    """The length of the pieces together."""
    return _sum_of([piece_length(piece) for piece in pieces])


def present_stretches(case, course):
    """The stretches of a case of the view with present forms."""
    return stretches_in(course.operation.container.cases[case][1], course.present)


def _position():
    return form_of({MIDDLE: 1})


def _lengths_of(stretches):
    return [last - first for _, first, last, _ in stretches]


def _sum_of(forms):
    total = Form()
    for form in forms:
        total = total + form
    return total


def _inside(length, at):
    return (at, True), (length - at, True)


def _with_facts(facts, origins):
    """The origins, with these facts in front of theirs."""
    return [(facts + own, origin) for own, origin in origins]


def _in_blocks(lengths, at):
    """For each of the blocks the facts that the position lies in it, and its position in it."""
    found = []
    start = Form()
    for number, length in enumerate(lengths):
        facts = ((start + length - at, True),)
        if number > 0:
            facts = ((at - start, True),) + facts
        found.append((facts, at - start))
        start = start + length
    return found


def _index_in(first, last, turned, within):
    return last - within if turned else first + within


def _origins_in_piece(piece, within, before):
    if piece[0] == "fill":
        return [((), (None, piece[1]))]
    _, name, first, last, turned = piece
    index = _index_in(first, last, turned, within)
    if name != "view":
        return [((), (name, index))]
    return [(facts, (array, _index_in(start, end, back, inner)))
            for (facts, inner), (array, start, end, back) in zip(_in_blocks(_lengths_of(before), index), before)]


def _cell_origins(array, at, course):
    """The origins of a cell after a run; what outputs have at the beginning is the letter 0."""
    outputs = [name for name, _ in course.operation.outputs]
    return [(facts, (None, 0) if name in outputs else (name, place))
            for facts, (name, place) in _followed_back(array, at, course.moves)]


def _followed_back(array, at, moves):
    if not moves:
        return [((), (array, at))]
    statement, forms = moves[-1]
    found = []
    for facts, (name, place) in _before_move(statement, forms, array, at):
        earlier = [((), (None, place))] if name is None else _followed_back(name, place, moves[:-1])
        found.extend(_with_facts(facts, earlier))
    return found


def _before_move(statement, forms, array, at):
    """Where the content of a cell was before the move."""
    if isinstance(statement, Resize):
        return _before_resize(statement, forms[0], array, at)
    if isinstance(statement, Copy):
        to, start, amount = forms
        return _through_block(statement.target, to, amount, array, at, (statement.source, at - to + start))
    if isinstance(statement, Reverse):
        start, amount = forms
        return _through_block(statement.array, start, amount, array, at, (array, start + start + amount - at))
    if isinstance(statement, Fill):
        start, amount = forms
        return _through_block(statement.array, start, amount, array, at, (None, statement.letter))
    return _before_swap(statement, forms, array, at)


def _before_resize(statement, old, array, at):
    if statement.array != array:
        return [((), (array, at))]
    return [(((old - at, True),), (array, at)), (((at - old, True),), (None, 0))]


def _before_swap(statement, forms, array, at):
    one, other, amount = forms
    found = []
    outside = [()]
    if statement.first == array:
        found.append((_within_block(one, amount, at), (statement.second, at - one + other)))
        outside = _beside_block(one, amount, at)
    for facts in outside:
        found.extend(_with_facts(facts, _through_block(
            statement.second, other, amount, array, at, (statement.first, at - other + one))))
    return found


def _through_block(written, start, amount, array, at, origin):
    """The three ways of a block that was written; `origin` is that of a cell within it."""
    if written != array:
        return [((), (array, at))]
    front, behind = _beside_block(start, amount, at)
    return [(front, (array, at)), (_within_block(start, amount, at), origin), (behind, (array, at))]


def _within_block(start, amount, at):
    return (at - start, True), (start + amount - at, True)


def _beside_block(start, amount, at):
    return [((start - at, True),), ((at - start - amount, True),)]
