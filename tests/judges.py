"""A second judge of the texts of containers and operations, by regular expressions."""

import re

from samples import is_condition_text, is_form_text

NAME = r"(?:(?!view(?![a-z0-9]))[a-z][a-z0-9]{0,7})"
_USED = re.compile(r"(?<![a-z0-9@])(?:[a-z][a-z0-9]*|@)(?![a-z0-9@(])")
_CONTAINER = re.compile(
    rf"((?:array {NAME} {NAME}\n)+)((?:field {NAME}\n)*)parameters((?: {NAME})*)\npremise ([^\n]*)\n"
    rf"((?:begin {NAME} = [^\n]*\n)+)invariant ([^\n]*)\n((?:case [^\n]*\n(?:  [^\n]*\n)*)+)")
_OPERATION = re.compile(
    rf"operation {NAME}\n((?:size {NAME}\n)*)((?:input {NAME} [^\n]*\n)*)((?:output {NAME} [^\n]*\n)*)"
    rf"premise ([^\n]*)\nbody\n((?:  [^\n]*\n)*)view\n((?:  [^\n]*\n)*)((?:result {NAME}\n(?:  [^\n]*\n)*)*)")
_STRETCH = re.compile(rf"({NAME})\[([^\[\]]*) \.\. ([^\[\]]*)\](?: reversed)?")
_LETTER = r"(?:0|-?[1-9][0-9]*)"
_FORM = r"[^\[\]()]*"
_LET = re.compile(rf"let ({NAME}) = ({_FORM})")
_COPY = re.compile(rf"(?:copy|up|down|apart) ({NAME})\[({_FORM})\] ({NAME})\[({_FORM})\] \(({_FORM})\)")
_SWAP = re.compile(rf"swap ({NAME})\[({_FORM})\] ({NAME})\[({_FORM})\] \(({_FORM})\)")
_REVERSE = re.compile(rf"reverse ({NAME})\[({_FORM})\] \(({_FORM})\)")
_FILL = re.compile(rf"fill ({NAME})\[({_FORM})\] \(({_FORM})\) {_LETTER}")
_RESIZE = re.compile(rf"resize ({NAME}) \(({_FORM})\)")


def is_form_on(text, symbols):
    return is_form_text(text) and set(_USED.findall(text)) <= set(symbols)


def is_condition_on(text, symbols):
    return is_condition_text(text) and set(_USED.findall(text)) <= set(symbols)


def is_stretch_on(text, lists, symbols):
    match = _STRETCH.fullmatch(text)
    return bool(match) and match[1] in lists and is_form_on(match[2], symbols) and is_form_on(match[3], symbols)


def is_container_text(text):
    match = _CONTAINER.fullmatch(text + "\n")
    if not match:
        return False
    arrays = [tuple(line.split(" ")[1:]) for line in match[1].splitlines()]
    further = [line.split(" ")[1] for line in match[2].splitlines()]
    parameters = match[3].split()
    names = [name for pair in arrays for name in pair] + further
    fields = sorted([length for _, length in arrays] + further)
    begin = [line[6:].split(" = ", 1) for line in match[5].splitlines()]
    if len(arrays) > 3 or len(fields) > 4 or len(parameters) > 4 or len(set(names)) < len(names):
        return False
    if len(set(parameters)) < len(parameters) or [field for field, _ in begin] != fields:
        return False
    if not all(is_form_on(form, parameters) for _, form in begin):
        return False
    if not is_condition_on(match[4], parameters) or not is_condition_on(match[6], fields):
        return False
    cases = re.findall(r"case ([^\n]*)\n((?:  [^\n]*\n)*)", match[7])
    if len(cases) > 3 or not all(is_condition_on(condition, fields) for condition, _ in cases):
        return False
    lists = [array for array, _ in arrays]
    return all(len(lines.splitlines()) <= 3 and all(is_stretch_on(line[2:], lists, fields) for line in lines.splitlines())
               for _, lines in cases)


def is_operation_text(container, text):
    match = _OPERATION.fullmatch(text + "\n")
    if not match:
        return False
    sizes = [line.split(" ")[1] for line in match[1].splitlines()]
    inputs, outputs = [[line.split(" ", 2)[1:] for line in part.splitlines()] for part in (match[2], match[3])]
    arrays, fields = [array for array, _ in container.arrays], list(container.fields)
    buffers = [name for name, _ in inputs + outputs]
    names, unknowns = arrays + fields + sizes + buffers, fields + sizes
    if len(set(names)) < len(names) or len(unknowns) > 5 or len(inputs) > 2 or len(outputs) > 2:
        return False
    if not all(is_form_on(form, unknowns) for _, form in inputs + outputs) or not is_condition_on(match[4], unknowns):
        return False
    uses = (sorted(set(fields) - {length for _, length in container.arrays}), arrays,
            arrays + [name for name, _ in outputs], arrays + buffers, unknowns)
    counts = _judged_body([line[2:] for line in match[5].splitlines()], uses)
    if counts is None or counts[0] > 40 or counts[1] > 5 or counts[2] > 4 or counts[3] > 4:
        return False
    results = re.findall(r"result ([^\n]*)\n((?:  [^\n]*\n)*)", match[7])
    if [name for name, _ in results] != [name for name, _ in outputs]:
        return False
    lists = ["view"] + [name for name, _ in inputs]
    return all(len(lines) <= 4 and all(_is_piece(line[2:], lists, unknowns) for line in lines)
               for lines in [part.splitlines() for part in [match[6]] + [part for _, part in results]])


def _is_piece(text, lists, unknowns):
    match = re.fullmatch(rf"fill {_LETTER} \(([^()]*)\)", text)
    if match:
        return is_form_on(match[1], unknowns)
    match = re.fullmatch(r"([a-z0-9]+)(\[.*)", text)
    return bool(match) and match[1] in lists and is_stretch_on("a" + match[2], ["a"], unknowns)


def _judged_body(lines, uses):
    """(statements, moves on a way, Ifs on a way, Ifs inside one another), or None."""
    total = [0, 0, 0, 0]
    while lines:
        line, lines = lines[0], lines[1:]
        if not line.startswith("if "):
            if not _is_simple(line, uses):
                return None
            counts = (1, 0 if line.startswith("let") else 1, 0, 0)
        else:
            branches = [[]]
            while lines and lines[0] != "end":
                if lines[0] == "else":
                    branches.append([])
                elif lines[0].startswith("  "):
                    branches[-1].append(lines[0][2:])
                else:
                    return None
                lines = lines[1:]
            if not lines or len(branches) > 2 or branches[1:] == [[]] or not is_condition_on(line[3:], uses[4]):
                return None
            lines = lines[1:]
            inner = [_judged_body(branch, uses) for branch in branches]
            if None in inner:
                return None
            counts = (1 + sum(one[0] for one in inner), max(one[1] for one in inner),
                      1 + max(one[2] for one in inner), 1 + max(one[3] for one in inner))
        total = [total[0] + counts[0], total[1] + counts[1], total[2] + counts[2], max(total[3], counts[3])]
    return total


def _is_simple(line, uses):
    free, arrays, written, read, unknowns = uses
    for pattern, names in [(_LET, (free,)), (_COPY, (written, read)), (_SWAP, (written, written)),
                           (_REVERSE, (written,)), (_FILL, (written,)), (_RESIZE, (arrays,))]:
        match = pattern.fullmatch(line)
        if match:
            found = match.groups()
            places = (0, 2) if len(names) == 2 else (0,)
            forms = [part for at, part in enumerate(found) if at not in places]
            return all(found[at] in allowed for at, allowed in zip(places, names)) and all(
                is_form_on(form, unknowns) for form in forms)
    return False


def altered_lines(text):
    """All texts with one line put in, left out, doubled, exchanged with another one, or moved by a blank."""
    lines = text.split("\n")
    for at in range(len(lines)):
        yield "\n".join(lines[:at] + lines[at + 1:])
        yield "\n".join(lines[:at + 1] + lines[at:])
        for blanks in (" ", "  "):
            yield "\n".join(lines[:at] + [blanks + lines[at]] + lines[at + 1:])
        yield "\n".join(lines[:at] + [lines[at].lstrip(" ")] + lines[at + 1:])
        yield "\n".join(lines[:at] + [lines[at] + " "] + lines[at + 1:])
        for other in range(len(lines)):
            yield "\n".join(lines[:at] + [lines[other]] + lines[at:])
            if other < at:
                swapped = list(lines)
                swapped[at], swapped[other] = lines[other], lines[at]
                yield "\n".join(swapped)
        for line in ("", "  ", "end", "else", "  end", "  else"):
            yield "\n".join(lines[:at] + [line] + lines[at:])
    yield text + "\n"
    yield "\n" + text
