"""The demands once more, straight by the words of points 16 to 22 and 24, as sets of sets of facts.

Facts are pairs (text of the form, strict). All is done by recursion over what is still to come, and conditions are read
from texts.
"""

from blockmoves.conditions import read_condition
from blockmoves.forms import Form

AT = Form.read("@")


def put(form, table):
    total = Form()
    for symbol in form.symbols:
        total = total + table[symbol] * form.factor(symbol)
    return total


def put_all(condition, table):
    """The condition with other forms, made anew."""
    if not condition.forms:
        inside = ", ".join(str(put_all(inner, table)) for inner in condition.conditions)
        return read_condition(f"{condition.WORD}({inside})")
    first, second = [put(form, table) for form in condition.forms]
    return read_condition(f"{first} {condition.WORD} {second}")


def ways(condition, truth):
    """The ways as sets of facts; `condition` may be a text."""
    condition = read_condition(condition) if isinstance(condition, str) else condition
    return [facts_of(way) for way in condition.ways(truth)]


def facts_of(pairs):
    return frozenset((str(form), strict) for form, strict in pairs)


def joined(*rows):
    """All unions of one set of each row."""
    found = [frozenset()]
    for row in rows:
        found = [one | other for one in found for other in row]
    return found


def inside(first, last, length):
    return f"all(0 <= {first}, {first} <= {last}, {last} <= {length})"


def atom(first, word, second):
    return f"{first} {word} {second}"


class Again:
    """One operation and what is said of it, with the fields themselves."""

    def __init__(self, operation):
        self.operation, self.container = operation, operation.container
        self.own = {symbol: Form.read(symbol) for symbol in operation.unknowns}
        self.buffers = operation.inputs + operation.outputs
        self.before = {array: self.own[field] for array, field in self.container.arrays} | dict(self.buffers)

    def beginnings(self, premises):
        """Pairs (facts, number of the case before)."""
        for number in range(len(self.container.cases)):
            for facts in joined(ways(self.container.invariant, True), self.chosen(number, self.own, self.before),
                                *[ways(premise, True) for premise in premises],
                                [facts_of((length, False) for _, length in self.buffers)]):
                yield facts, number

    def chosen(self, number, table, lengths):
        """The ways in which a case is the first one that holds, with all its stretches."""
        return joined(self.first(self.container.cases, number, table),
                      *[ways(inside(first, last, lengths[array]), True)
                        for array, first, last, _ in self.stretches(number, table)])

    def first(self, pairs, number, table):
        rows = [ways(put_all(condition, table), False) for condition, _ in pairs[:number]]
        return joined(*rows, ways(put_all(pairs[number][0], table), True))

    def stretches(self, number, table):
        return [(array, put(first, table), put(last, table), back)
                for array, first, last, back in self.container.cases[number][1]]

    def missing(self, table, lengths):
        cases = self.container.cases
        found = joined(*[ways(put_all(condition, table), False) for condition, _ in cases])
        for number in range(len(cases)):
            stretches = self.stretches(number, table)
            for at in range(len(stretches)):
                rows = [ways(inside(first, last, lengths[array]), place < at)
                        for place, (array, first, last, _) in enumerate(stretches[:at + 1])]
                found += joined(self.first(cases, number, table), *rows)
        return found

    def stops(self, statement, table, lengths):
        """The conditions that there are no stops."""
        word = statement.WORD
        if word == "let":
            return [("field", atom("0", "<=", put(statement.form, table)))]
        if word == "resize":
            return [("amount", atom("0", "<=", put(statement.length, table)))]
        amount, start = put(statement.amount, table), put(statement.start, table)
        found = [("amount", atom("0", "<=", amount))]
        if word in ("reverse", "fill"):
            return found + [("range", f"all(0 <= {start}, {start + amount} <= {lengths[statement.array]})")]
        one, other = (statement.first, statement.second) if word == "swap" else (statement.target, statement.source)
        to = put(statement.at if word == "swap" else statement.to, table)
        found.append(("range", f"all(0 <= {to}, {to + amount} <= {lengths[one]}, 0 <= {start}, "
                               f"{start + amount} <= {lengths[other]})"))
        if one == other and word == "up":
            found.append(("clobber", f"not(all({start} < {to}, {to} < {start + amount}))"))
        if one == other and word == "down":
            found.append(("clobber", f"not(all({to} < {start}, {start} < {to + amount}))"))
        if one == other and word in ("apart", "swap"):
            found.append(("overlap", f"not(all({to} < {start + amount}, {start} < {to + amount}))"))
        return found

    def walks(self, facts, rows, state, found):
        """Yields (facts, state) behind the rows, pairs (place, statement); `found` gets (place, kind, facts)."""
        if not rows:
            yield facts, state
            return
        (place, statement), rest = rows[0], rows[1:]
        table, lengths, moves, cost = state
        if statement.WORD == "if":
            then = numbered(statement.then, place + 1)
            otherwise = numbered(statement.otherwise, place + 1 + count(statement.then))
            for truth, branch in ((True, then), (False, otherwise)):
                for way in ways(put_all(statement.condition, table), truth):
                    yield from self.walks(facts | way, branch + rest, state, found)
            return
        passed = [facts]
        for kind, condition in self.stops(statement, table, lengths):
            found.extend((place, kind, stop) for stop in joined(passed, ways(condition, False)))
            passed = joined(passed, ways(condition, True))
        state = self.behind(statement, state)
        for met in passed:
            yield from self.walks(met, rest, state, found)

    def behind(self, statement, state):
        table, lengths, moves, cost = state
        if statement.WORD == "let":
            return table | {statement.field: put(statement.form, table)}, lengths, moves, cost
        if statement.WORD == "resize":
            length, old = put(statement.length, table), lengths[statement.array]
            field = dict(self.container.arrays)[statement.array]
            return (table | {field: length}, lengths | {statement.array: length}, moves + [(statement, table, old)],
                    cost + length)
        amount = put(statement.amount, table)
        return table, lengths, moves + [(statement, table, None)], cost + amount * (2 if statement.WORD == "swap" else 1)

    def pieces(self, pieces, number, upto=None):
        """The ways in which all pieces are whole, or all before one and that one is not."""
        lengths = dict(self.buffers) | {"view": self.view_length(self.stretches(number, self.own))}
        rows = []
        for at, piece in enumerate(pieces if upto is None else pieces[:upto + 1]):
            text = atom("0", "<=", piece[2]) if piece[0] == "fill" else inside(piece[2], piece[3], lengths[piece[1]])
            rows.append(ways(text, at != upto))
        return joined(*rows)

    def view_length(self, stretches):
        return sum([last - first for _, first, last, _ in stretches], Form())

    def pieces_length(self, pieces):
        return sum([piece[2] if piece[0] == "fill" else piece[3] - piece[2] for piece in pieces], Form())

    # Origins: triples (facts, array or None, form or letter).

    def in_blocks(self, at, lengths, whole):
        """(facts, position in the block) for each block."""
        found, start = [], Form()
        for number, length in enumerate(lengths):
            facts = [(start + length - at, True)]
            if whole:
                facts += [(at, True), (sum(lengths, Form()) - at, True)]
            if number:
                facts.append((at - start, True))
            found.append((facts_of(facts), at - start))
            start = start + length
        return found

    def view_origins(self, at, stretches, moves, whole=True):
        for (facts, inner), (array, first, last, back) in zip(
                self.in_blocks(at, [last - first for _, first, last, _ in stretches], whole), stretches):
            for more, name, place in self.back(array, last - inner if back else first + inner, moves):
                yield facts | more, name, place

    def piece_origins(self, pieces, number):
        lengths = [self.pieces_length([piece]) for piece in pieces]
        for (facts, inner), piece in zip(self.in_blocks(AT, lengths, True), pieces):
            if piece[0] == "fill":
                yield facts, None, piece[1]
                continue
            _, name, first, last, back = piece
            place = last - inner if back else first + inner
            if name != "view":
                yield facts, name, place
                continue
            for more, array, cell in self.view_origins(place, self.stretches(number, self.own), [], False):
                yield facts | more, array, cell

    def row_origins(self, name, length, moves):
        for facts, array, place in self.back(name, AT, moves):
            yield facts | facts_of([(AT, True), (length - AT, True)]), array, place

    def back(self, array, q, moves):
        if not moves:
            outputs = [name for name, _ in self.operation.outputs]
            yield frozenset(), *((None, 0) if array in outputs else (array, q))
            return
        statement, table, old = moves[-1]
        if statement.WORD == "resize":
            if statement.array != array:
                yield from self.back(array, q, moves[:-1])
            else:
                yield from with_facts([(old - q, True)], self.back(array, q, moves[:-1]))
                yield facts_of([(q - old, True)]), None, 0
            return
        amount, start = put(statement.amount, table), put(statement.start, table)
        blocks = []
        if statement.WORD in ("reverse", "fill"):
            blocks = [(statement.array, start, (statement.array, start * 2 + amount - q))]
        elif statement.WORD == "swap":
            at = put(statement.at, table)
            blocks = [(statement.first, at, (statement.second, q - at + start)),
                      (statement.second, start, (statement.first, q - start + at))]
        else:
            to = put(statement.to, table)
            blocks = [(statement.target, to, (statement.source, q - to + start))]
        asked = [[]]
        for written, t, (goal, place) in blocks:
            if written != array:
                continue
            for facts in asked:
                within = facts + [(q - t, True), (t + amount - q, True)]
                if statement.WORD == "fill":
                    yield facts_of(within), None, statement.letter
                else:
                    yield from with_facts(within, self.back(goal, place, moves[:-1]))
            asked = [facts + [more] for facts in asked for more in ((t - q, True), (q - t - amount, True))]
        for facts in asked:
            yield from with_facts(facts, self.back(array, q, moves[:-1]))


def with_facts(facts, origins):
    for more, name, place in origins:
        yield facts_of(facts) | more, name, place


def meetings(first, second):
    second = list(second)
    for facts, name, place in first:
        for more, other, cell in second:
            both = facts | more
            if name is None and other is None:
                if place != cell:
                    yield both
            elif name == other and place.factor("@") == cell.factor("@"):
                yield both | facts_of([(place - cell, True)])
                yield both | facts_of([(cell - place, True)])
            else:
                yield both


def count(statements):
    return sum(1 + (count(one.then) + count(one.otherwise) if one.WORD == "if" else 0) for one in statements)


def numbered(statements, place):
    found = []
    for statement in statements:
        found.append((place, statement))
        place += count([statement])
    return found


def whole_walks(again, premises, found):
    """Yields (facts, number of the case before, state)."""
    for facts, number in again.beginnings(premises):
        state = (again.own, again.before, [], Form())
        for end, behind in again.walks(facts, numbered(again.operation.body, 0), state, found):
            yield end, number, behind


def same(first, second, truth):
    return ways(atom(first, "=", second), truth)


def demands_again(operation):
    again, found, last = Again(operation), [], count(operation.body)
    container = operation.container
    for facts, number, (table, lengths, moves, _) in whole_walks(again, [operation.premise], found):
        def add(kind, *rows):
            found.extend((last, kind, end) for end in joined([facts], *rows))
        add("invariant", ways(put_all(container.invariant, table), False))
        add("view", again.missing(table, lengths))
        for pieces in (operation.view,) + operation.results:
            for at in range(len(pieces)):
                add("promise", again.pieces(pieces, number, at))
        for case in range(len(container.cases)):
            stretches = again.stretches(case, table)
            both = (again.chosen(case, table, lengths), again.pieces(operation.view, number))
            sizes = again.view_length(stretches), again.pieces_length(operation.view)
            add("length", *both, same(*sizes, False))
            add("cell", *both, same(*sizes, True), list(meetings(
                again.view_origins(AT, stretches, moves), again.piece_origins(operation.view, number))))
        for (name, length), pieces in zip(operation.outputs, operation.results):
            whole = again.pieces(pieces, number)
            add("result", whole, same(length, again.pieces_length(pieces), False))
            add("result", whole, same(length, again.pieces_length(pieces), True), list(meetings(
                again.row_origins(name, length, moves), again.piece_origins(pieces, number))))
    return set(found)


def demands_of_both_again(first, second, by):
    one, two, stops, found = Again(first), Again(second), [], []
    container = first.container
    for facts, number, state in whole_walks(one, [first.premise, second.premise], stops):
        more = []
        start = (two.own, two.before, [], Form())
        for end, other in two.walks(facts, numbered(second.body, 0), start, more):
            (table, lengths, moves, _), (table2, lengths2, moves2, _) = state, other

            def add(kind, *rows):
                found.extend((kind, last) for last in joined([end], *rows))
            if by == "cells":
                for field in container.fields:
                    add("field", same(table[field], table2[field], False))
                for array, _ in container.arrays:
                    sizes = lengths[array], lengths2[array]
                    add("array", same(*sizes, True), list(meetings(
                        one.row_origins(array, sizes[0], moves), two.row_origins(array, sizes[1], moves2))))
            else:
                add("view", one.missing(table, lengths))
                add("view", two.missing(table2, lengths2))
                for case in range(len(container.cases)):
                    for case2 in range(len(container.cases)):
                        left, right = one.stretches(case, table), two.stretches(case2, table2)
                        both = one.chosen(case, table, lengths), two.chosen(case2, table2, lengths2)
                        sizes = one.view_length(left), two.view_length(right)
                        add("length", *both, same(*sizes, False))
                        add("cell", *both, same(*sizes, True), list(meetings(
                            one.view_origins(AT, left, moves), two.view_origins(AT, right, moves2))))
            for name, length in first.outputs:
                add("result", list(meetings(one.row_origins(name, length, moves), two.row_origins(name, length, moves2))))
        found.extend(("second", stop) for _, _, stop in more)
    found.extend(("first", stop) for _, _, stop in stops)
    return set(found)


def demands_of_kept_again(operation, condition):
    again, found = Again(operation), []
    for facts, _, (table, _, _, _) in whole_walks(again, [operation.premise], []):
        found += joined([facts], ways(condition, True), ways(put_all(condition, table), False))
    return set(found)


def demands_of_bound_again(operation, potential, form, fraction):
    again, found, (p, q) = Again(operation), [], fraction
    for facts, _, (table, _, _, cost) in whole_walks(again, [operation.premise], []):
        for before in range(len(potential)):
            for after in range(len(potential)):
                spread = cost + put(potential[after][1], table) - potential[before][1]
                found += joined([facts], again.first(potential, before, again.own), again.first(potential, after, table),
                                [facts_of([(spread * q - form * p, True)])])
    return set(found)


def demands_of_container_again(container):
    own = {field: Form.read(field) for field in container.fields}
    begin = dict(container.begin)
    found = joined(ways(container.premise, True), [facts_of((form, False) for form in begin.values())],
                   ways(put_all(container.invariant, begin), False))

    class Stub:
        pass

    stub = Stub()
    stub.container, stub.unknowns, stub.inputs, stub.outputs = container, container.fields, (), ()
    again = Again(stub)
    return set(found + joined(ways(container.invariant, True), again.missing(own, again.before)))
