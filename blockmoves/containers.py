"""Containers and whether they are sound (points 10 and 15 of the document)."""

from blockmoves.conditions import is_condition_on, read_condition
from blockmoves.errors import InputError, InvalidArrays, InvalidBegin, InvalidCases, InvalidFields
from blockmoves.errors import InvalidInvariant, InvalidParameters, InvalidPremise, InvalidText, NotAContainer
from blockmoves.forms import is_form_on, is_new_name
from blockmoves.limits import MAX_ARRAYS, MAX_FIELDS
from blockmoves.paths import paths_along, search_path
from blockmoves.plans import missing_plans, not_below_zero, own_table, ways_in
from blockmoves.texts import condition_below, is_stretch_on, pair_in, rests_of, sections_of
from blockmoves.texts import stretch_in_text, stretch_text

_MOST_PARAMETERS = 4
_MOST_CASES = 3
_MOST_STRETCHES = 3


class Container:
    """Arrays with their length fields, further fields, a start, an invariant and a view."""

    def __init__(self, arrays, fields, parameters, premise, begin, invariant, cases):
        _check_arrays(arrays)
        _check_fields(fields, arrays)
        _check_parameters(parameters)
        if not is_condition_on(premise, parameters):
            raise InvalidPremise(premise)
        all_fields = tuple(sorted(fields + tuple([length for _, length in arrays])))
        _check_begin(begin, all_fields, parameters)
        if not is_condition_on(invariant, all_fields):
            raise InvalidInvariant(invariant)
        _check_cases(cases, tuple([array for array, _ in arrays]), all_fields)
        self.arrays = arrays
        self.fields = all_fields
        self.parameters = parameters
        self.premise = premise
        self.begin = tuple(sorted(begin, key=lambda pair: pair[0]))
        self.invariant = invariant
        self.cases = cases
        self.lines = tuple(_lines_of(self, fields))

    @staticmethod
    def read(text):
        """The container with this text."""
        return read_container(text)

    def __eq__(self, other):
        return isinstance(other, Container) and self.lines == other.lines

    def __str__(self):
        return "\n".join(self.lines)

    def __repr__(self):
        return f"Container({len(self.arrays)} arrays, {len(self.fields)} fields)"


def read_container(text):
    """The container with this text."""
    container = _container_in_text(text) if isinstance(text, str) else None
    if container is None or str(container) != text:
        raise InvalidText(text)
    return container


def check_container(value):
    """Raises NotAContainer if the value is no container."""
    if not isinstance(value, Container):
        raise NotAContainer(value)


def is_sound(container):
    """Whether every allowed start makes the invariant true, and every state with the invariant has a view."""
    return find_unsound(container) is None


def find_unsound(container):
    """None if the container is sound, otherwise a pair ("start" or "view", values that show it)."""
    check_container(container)
    paths = start_paths(container, container.invariant)
    if paths:
        return "start", paths[0].solution()
    for plan in viewless_plans(container):
        paths = paths_along([search_path(container.fields)], plan)
        if paths:
            return "view", paths[0].solution()
    return None


def start_paths(container, condition):
    """The paths to values of the parameters of allowed starts that make the condition false."""
    return paths_along([search_path(tuple(sorted(container.parameters)))], start_plan(container, condition))


def start_plan(container, condition):
    """The plan for an allowed start that makes the condition on the fields false."""
    allowed = ways_in(container.premise, True, own_table(container.parameters))
    begun = [not_below_zero([form for _, form in container.begin])]
    return [allowed, begun, ways_in(condition, False, dict(container.begin))]


def unsound_plans(container):
    """The plans for all that makes the container unsound."""
    return [start_plan(container, container.invariant)] + viewless_plans(container)


def viewless_plans(container):
    """The plans for a state that makes the invariant true and has no view."""
    table = own_table(container.fields)
    kept = ways_in(container.invariant, True, table)
    return [[kept] + plan for plan in missing_plans(container.cases, table, lengths_in(container, table))]


def lengths_in(container, table):
    """The length of each array of the container, where the table has the forms of the fields."""
    return {array: table[length] for array, length in container.arrays}


def _check_arrays(arrays):
    if not isinstance(arrays, tuple) or not 1 <= len(arrays) <= MAX_ARRAYS:
        raise InvalidArrays(None)
    names = []
    for at, pair in enumerate(arrays):
        if not isinstance(pair, tuple) or len(pair) != 2:
            raise InvalidArrays(at)
        for name in pair:
            if not is_new_name(name, names):
                raise InvalidArrays(at)
            names.append(name)


def _check_fields(fields, arrays):
    if not isinstance(fields, tuple) or len(fields) + len(arrays) > MAX_FIELDS:
        raise InvalidFields(None)
    names = [name for pair in arrays for name in pair]
    for at, name in enumerate(fields):
        if not is_new_name(name, names):
            raise InvalidFields(at)
        names.append(name)


def _check_parameters(parameters):
    if not isinstance(parameters, tuple) or len(parameters) > _MOST_PARAMETERS:
        raise InvalidParameters(None)
    for at, name in enumerate(parameters):
        if not is_new_name(name, parameters[:at]):
            raise InvalidParameters(at)


def _check_begin(begin, fields, parameters):
    if not isinstance(begin, tuple) or len(begin) != len(fields):
        raise InvalidBegin(None)
    names = []
    for at, pair in enumerate(begin):
        if not isinstance(pair, tuple) or len(pair) != 2 or not is_new_name(pair[0], names):
            raise InvalidBegin(at)
        if pair[0] not in fields or not is_form_on(pair[1], parameters):
            raise InvalidBegin(at)
        names.append(pair[0])


def _check_cases(cases, arrays, fields):
    if not isinstance(cases, tuple) or not 1 <= len(cases) <= _MOST_CASES:
        raise InvalidCases(None)
    for at, case in enumerate(cases):
        if not _is_case(case, arrays, fields):
            raise InvalidCases(at)


def _is_case(case, arrays, fields):
    if not isinstance(case, tuple) or len(case) != 2:
        return False
    condition, stretches = case
    if not is_condition_on(condition, fields) or not isinstance(stretches, tuple):
        return False
    return len(stretches) <= _MOST_STRETCHES and all(
        [is_stretch_on(stretch, arrays, fields) for stretch in stretches])


def _lines_of(container, further):
    """The lines of the text; `further` are the fields that are no lengths, in their order."""
    rows = [f"array {array} {length}" for array, length in container.arrays]
    rows.extend([f"field {field}" for field in further])
    rows.append(" ".join(["parameters", *container.parameters]))
    rows.append(f"premise {str(container.premise)}")
    rows.extend([f"begin {field} = {str(form)}" for field, form in container.begin])
    rows.append(f"invariant {str(container.invariant)}")
    for condition, stretches in container.cases:
        rows.append(f"case {str(condition)}")
        rows.extend(["  " + stretch_text(array, first, last, turned) for array, first, last, turned in stretches])
    return rows


def _container_in_text(text):
    """The container whose text this may be, or None."""
    sections = sections_of(text)
    names = " ".join(rests_of(sections, "parameters"))
    try:
        return Container(
            tuple([tuple(rest.split(" ")) for rest in rests_of(sections, "array")]),
            tuple(rests_of(sections, "field")),
            tuple(names.split(" ")) if names else (),
            condition_below(sections, "premise"),
            tuple([pair_in(rest, " = ") for rest in rests_of(sections, "begin")]),
            condition_below(sections, "invariant"),
            tuple([_case_in(rest, lines) for word, rest, lines in sections if word == "case"]))
    except InputError:
        return None


def _case_in(rest, lines):
    return read_condition(rest), tuple([stretch_in_text(line) for line in lines])
