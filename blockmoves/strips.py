"""Rows of cells told by their spans, however long the rows are.

A *strip* is a tuple of spans (name, start, step, many): `many` cells of the row
of this name before the call, at the indexes start, start + step and so on. A
span of letters has the name None, the letter as its start, and the step 0.
"""


def row_strip(name, many):
    """All cells of a row."""
    return _span(name, 0, 1, many)


def letter_strip(letter, many):
    """A letter, so many times."""
    return _span(None, letter, 0, many)


def strip_length(strip):
    """The number of cells of the strip."""
    return sum([many for _, _, _, many in strip])


def cut(strip, first, last):
    """The cells from the index `first` on, before `last`."""
    found = ()
    begin = 0
    for name, start, step, many in strip:
        low = max(first - begin, 0)
        high = min(last - begin, many)
        found = found + _span(name, start + step * low, step, high - low)
        begin = begin + many
    return found


def turned(strip):
    """The cells in the reversed order."""
    return tuple([(name, start + step * (many - 1), -step, many) for name, start, step, many in reversed(strip)])


def are_same(first, second):
    """Whether both strips are the same, where the cells of all rows are unlike one another and all letters."""
    if strip_length(first) != strip_length(second):
        return False
    borders = sorted(set(_borders_of(first) + _borders_of(second)))
    return all([_are_same_spans(cut(first, low, high)[0], cut(second, low, high)[0])
                for low, high in zip(borders, borders[1:])])


def cells_in(strip, rows):
    """The tuple of the cells, where a dict has the cells of each row before the call."""
    cells = []
    for name, start, step, many in strip:
        if name is None:
            cells.extend([start] * many)
        elif step > 0:
            cells.extend(rows[name][start:start + many])
        else:
            cells.extend([rows[name][start - at] for at in range(many)])
    return tuple(cells)


def _span(name, start, step, many):
    return ((name, start, step, many),) if many > 0 else ()


def _borders_of(strip):
    """The indexes at which the spans begin and end."""
    borders = [0]
    for _, _, _, many in strip:
        borders.append(borders[-1] + many)
    return borders


def _are_same_spans(first, second):
    name, start, step, many = first
    other_name, other_start, other_step, _ = second
    # One cell alone has no direction.
    return name == other_name and start == other_start and (many == 1 or step == other_step)
