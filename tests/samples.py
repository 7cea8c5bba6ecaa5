"""What several tests need: values of all kinds, and a second judge of texts."""

import re

from blockmoves.conditions import All, Any, Below, Not, Same, Upto
from blockmoves.forms import Form


class Liar:
    """Claims to equal everything."""

    def __eq__(self, other):
        return True

    def __hash__(self):
        return hash("a")


def some_function():
    return None


# Values that are neither names, symbols, integers, truths, tuples, forms nor conditions.
STRANGE = [
    None, b"a", b"0", [], ["a"], {}, {"a": 1}, set(), {"a"}, frozenset(), Liar(), object(), object, int, str, Form,
    Below, some_function, len, iter(()), ValueError("a"), NotImplemented, Ellipsis, range(2), bytearray(b"a"),
]

NAMES = ["a", "z", "m", "a0", "cap", "head", "a9z", "abcdefgh", "z9999999", "views", "vie", "view1", "all", "any",
         "not", "self", "none", "text"]
NO_NAMES = ["", "view", "abcdefghi", "a23456789", "0", "9a", "0abc", "@", "@a", "a@", "A", "Cap", "aB", "a_b", "_a",
            "a b", " a", "a ", "a\n", "\n", " ", "a-", "-a", "a*", "2*a", "a.b", "a'", "`", "{", "/", ":"]

GREAT = 123456789012345678901234567890
SIGNS = "abvz0129*+-@<=(), \nA_.!"

_NAME = r"(?!view(?![a-z0-9]))[a-z][a-z0-9]{0,7}"
_SYMBOL = rf"(?:{_NAME}|@)"
_TERM = rf"(?:(?:[2-9]|[1-9][0-9]+)\*)?{_SYMBOL}"
_FORM = re.compile(rf"-?{_TERM}(?: [+-] {_TERM})*")
_SYMBOLS = re.compile(rf"(?<![a-z0-9@]){_SYMBOL}(?![a-z0-9@])")


def is_form_text(text):
    if text == "0":
        return True
    if not _FORM.fullmatch(text):
        return False
    found = _SYMBOLS.findall(text)
    return all(one < other for one, other in zip(found, found[1:]))


def judged(text):
    """(parts, depth) of the text of a condition of any size; None if it is no such text."""
    for word in (" < ", " <= ", " = "):
        if text.count(word) == 1 and all(is_form_text(side) for side in text.split(word)):
            return 1, 1
    match = re.fullmatch(r"(not|all|any)\((.*)\)", text, re.DOTALL)
    if not match:
        return None
    pieces = _pieces(match[2])
    if match[1] == "not" and len(pieces) != 1:
        return None
    inner = [judged(piece) for piece in pieces]
    if None in inner:
        return None
    return 1 + sum(parts for parts, _ in inner), 1 + max([depth for _, depth in inner], default=0)


def _pieces(text):
    """Splits at the `, ` outside of brackets."""
    if not text:
        return []
    pieces, rest = [], text
    while rest is not None:
        for at in range(len(rest) + 1):
            ends = at == len(rest)
            if (ends or rest[at:at + 2] == ", ") and rest[:at].count("(") == rest[:at].count(")"):
                pieces.append(rest[:at])
                rest = None if ends else rest[at + 2:]
                break
        else:
            pieces.append(rest)
            rest = None
    return pieces


def is_condition_text(text):
    size = judged(text)
    return size is not None and size[0] <= 12 and size[1] <= 4


def changed(text):
    """All texts with one sign of this one left out, exchanged, or put in."""
    for at in range(len(text) + 1):
        for sign in SIGNS:
            yield text[:at] + sign + text[at:]
    for at in range(len(text)):
        yield text[:at] + text[at + 1:]
        for sign in SIGNS:
            if sign != text[at]:
                yield text[:at] + sign + text[at + 1:]


def built(plan):
    """The condition of a plan: ("<", F, G), ("not", C), ("all", C, D) and so on."""
    word, *rest = plan
    if word in ("<", "<=", "="):
        kind = {"<": Below, "<=": Upto, "=": Same}[word]
        return kind(*rest)
    kind = {"not": Not, "all": All, "any": Any}[word]
    return kind(*[built(inner) for inner in rest])


def random_form(chance, symbols="abc"):
    return Form(**{symbol: chance.randint(-3, 3) for symbol in symbols if chance.random() < 0.7})


def random_plan(chance, depth=4, room=12):
    """The plan of a condition with at most so great a depth and so many parts."""
    if depth == 1 or room < 2 or chance.random() < 0.25:
        word = chance.choice(["<", "<=", "="])
        return word, random_form(chance), random_form(chance)
    word = chance.choice(["not", "all", "any"])
    many = 1 if word == "not" else chance.randint(0, min(3, room - 1))
    return word, *[random_plan(chance, depth - 1, (room - 1) // max(1, many)) for _ in range(many)]


def raised(kind, call, *args, **named):
    """The error that the call raises, which has to be of this kind."""
    try:
        call(*args, **named)
    except kind as error:
        return error
    raise AssertionError(f"{kind.__name__} was not raised")
