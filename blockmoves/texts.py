"""What the texts of containers and operations have in common (point 15 of the document).

The functions that read go by the outlines of a text alone. Whoever calls them
compares the text of what was made of it with the text itself.
"""

from blockmoves.conditions import read_condition
from blockmoves.errors import InvalidText
from blockmoves.forms import form_in_text, is_form_on


def is_stretch_on(value, lists, symbols):
    """Whether any value is a stretch of one of the lists or arrays, with forms on these symbols."""
    if not isinstance(value, tuple) or len(value) != 4:
        return False
    name, first, last, turned = value
    if not isinstance(name, str) or name not in lists:
        return False
    return is_form_on(first, symbols) and is_form_on(last, symbols) and (turned is True or turned is False)


def stretch_text(name, first, last, turned):
    """The text of a stretch or a part."""
    ending = " reversed" if turned else ""
    return f"{name}[{str(first)} .. {str(last)}]{ending}"


def stretch_in_text(text):
    """The list or array of a stretch, its two forms, and whether it is reversed."""
    name, _, rest = text.partition("[")
    inside, _, ending = rest.partition("]")
    first, _, last = inside.partition(" .. ")
    return name, form_in_text(first), form_in_text(last), ending == " reversed"


def sections_of(text):
    """A triple for each line that is not indented: its first word, the rest, the indented lines behind it."""
    sections = [("", "", [])]
    for line in text.split("\n"):
        if line.startswith("  "):
            sections[-1][2].append(line[2:])
        else:
            word, _, rest = line.partition(" ")
            sections.append((word, rest, []))
    return sections


def rests_of(sections, word):
    """The rests of all lines with this first word."""
    return [rest for own, rest, _ in sections if own == word]


def lines_below(sections, word):
    """The indented lines behind the lines with this first word."""
    return [line for own, _, lines in sections if own == word for line in lines]


def condition_below(sections, word):
    """The condition in the line with this first word."""
    rests = rests_of(sections, word)
    if not rests:
        raise InvalidText(word)
    return read_condition(rests[0])


def pair_in(text, middle):
    """The pair of a name and a form that stand on both sides of the middle."""
    name, _, rest = text.partition(middle)
    return name, form_in_text(rest)
