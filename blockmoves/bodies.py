"""Statements read from their lines (point 15 of the document), by their outlines alone, as in texts.py."""

from blockmoves.conditions import read_condition
from blockmoves.errors import InvalidText
from blockmoves.forms import form_in_text, number_in_text
from blockmoves.statements import Apart, Copy, Down, Fill, If, Let, Resize, Reverse, Swap, Up
from blockmoves.texts import pair_in


class Unended:
    """An If whose `end` has not come yet, with the statements of its branches so far."""

    def __init__(self, text):
        self.text = text
        self.branches = [[]]

    def ended(self):
        """The If, if it has at most one `else`."""
        then, *others = self.branches
        otherwise = others[0] if others else []
        return If(read_condition(self.text), tuple(then), tuple(otherwise))


def statements_in(lines):
    """The statements in the lines; raises InvalidText, or what their classes raise, if a line is none.

    An If without its `end`, and an `end` without its If, are left out.
    """
    opened = [Unended("")]
    for line in lines:
        word, _, rest = line.lstrip(" ").partition(" ")
        if word == If.WORD:
            opened.append(Unended(rest))
        elif word == "else":
            opened[-1].branches.append([])
        elif word != "end":
            opened[-1].branches[-1].append(_simple_in(word, rest))
        elif len(opened) > 1:
            done = opened.pop()
            opened[-1].branches[-1].append(done.ended())
    return tuple(opened[0].branches[0])


def _simple_in(word, rest):
    """The statement of a line with this first word and this rest."""
    if word == Let.WORD:
        field, form = pair_in(rest, " = ")
        return Let(field, form)
    parts = _parts_of(rest)
    if len(parts) == 3 and word == Resize.WORD:
        return Resize(parts[0], form_in_text(parts[1]))
    if len(parts) == 5 and word == Reverse.WORD:
        return Reverse(parts[0], form_in_text(parts[1]), form_in_text(parts[3]))
    if len(parts) == 5 and word == Fill.WORD:
        return Fill(parts[0], form_in_text(parts[1]), form_in_text(parts[3]), number_in_text(parts[4]))
    if len(parts) == 7:
        return _moving_in(word, parts)
    raise InvalidText(rest)


def _moving_in(word, parts):
    first, at, second, start, _, amount, _ = parts
    at, start, amount = [form_in_text(part) for part in (at, start, amount)]
    if word == Copy.WORD:
        return Copy(first, at, second, start, amount)
    if word == Up.WORD:
        return Up(first, at, second, start, amount)
    if word == Down.WORD:
        return Down(first, at, second, start, amount)
    if word == Apart.WORD:
        return Apart(first, at, second, start, amount)
    if word == Swap.WORD:
        return Swap(first, at, second, start, amount)
    raise InvalidText(word)


def _parts_of(text):
    """The parts of the text between brackets of both kinds, without blanks around them."""
    for bracket in ("]", "(", ")"):
        text = text.replace(bracket, "[")
    return [part.strip(" ") for part in text.split("[")]
