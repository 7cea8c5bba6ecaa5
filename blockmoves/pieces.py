"""The pieces of promises and their texts (points 13 and 15 of the document)."""

from blockmoves.forms import form_in_text, is_form_on, is_integer, number_in_text
from blockmoves.texts import is_stretch_on, stretch_in_text, stretch_text

MOST_PIECES = 4


def is_list_of_pieces(value, lists, symbols):
    """Whether any value is a tuple of at most four pieces of the lists, with forms on the symbols."""
    if not isinstance(value, tuple) or len(value) > MOST_PIECES:
        return False
    return all([is_piece(piece, lists, symbols) for piece in value])


def is_piece(value, lists, symbols):
    """Whether any value is a piece of one of the lists, with forms on the symbols."""
    if not isinstance(value, tuple) or not value or not isinstance(value[0], str):
        return False
    if value[0] == "part":
        return is_stretch_on(value[1:], lists, symbols)
    if value[0] != "fill" or len(value) != 3:
        return False
    return is_integer(value[1]) and is_form_on(value[2], symbols)


def piece_text(piece):
    """The text of the piece."""
    if piece[0] == "part":
        _, name, first, last, turned = piece
        return stretch_text(name, first, last, turned)
    _, letter, amount = piece
    return f"fill {letter} ({str(amount)})"


def piece_in_text(text):
    """The piece whose text this may be."""
    if not text.startswith("fill "):
        name, first, last, turned = stretch_in_text(text)
        return "part", name, first, last, turned
    letter, _, amount = text[5:].partition(" (")
    return "fill", number_in_text(letter), form_in_text(amount[:-1])
