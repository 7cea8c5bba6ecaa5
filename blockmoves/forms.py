"""Names, symbols, values and forms (point 6 of the document)."""

from blockmoves.errors import InvalidFactor, InvalidName, InvalidText, InvalidValues, NotAForm

_LETTERS = "abcdefghijklmnopqrstuvwxyz"
_SIGNS = "abcdefghijklmnopqrstuvwxyz0123456789"
_LONGEST_NAME = 8

# The symbol of the position of a cell.
MIDDLE = "@"


def is_integer(value):
    """Whether any value is an integer; True and False are none."""
    return isinstance(value, int) and not isinstance(value, bool)


def is_name(value):
    """Whether any value is a name."""
    if not isinstance(value, str) or value == "view":
        return False
    if not 1 <= len(value) <= _LONGEST_NAME:
        return False
    return value[0] in _LETTERS and all([sign in _SIGNS for sign in value])


def is_new_name(value, names):
    """Whether any value is a name that is none of these."""
    return is_name(value) and value not in names


def check_name(value):
    """Raises InvalidName if the value is no name."""
    if not is_name(value):
        raise InvalidName(value)


def is_symbol(value):
    """Whether any value is a symbol."""
    return is_name(value) or (isinstance(value, str) and value == MIDDLE)


def is_values(value):
    """Whether any value is values: ascending pairs (symbol, integer from 0 on)."""
    if not isinstance(value, tuple):
        return False
    if not all([_is_worth(pair) for pair in value]):
        return False
    symbols = [symbol for symbol, _ in value]
    return symbols == sorted(set(symbols))


def _is_worth(pair):
    if not isinstance(pair, tuple) or len(pair) != 2:
        return False
    symbol, worth = pair
    return is_symbol(symbol) and is_integer(worth) and worth >= 0


def table_of(values, symbols):
    """The values as a dict; InvalidValues if they are none or lack one of the symbols."""
    if not is_values(values):
        raise InvalidValues(values)
    table = dict(values)
    for symbol in symbols:
        if symbol not in table:
            raise InvalidValues(values)
    return table


class Form:
    """A sum of integer multiples of symbols.

    `terms` has the pairs (symbol, factor) with a factor other than 0,
    ascending, so that equal forms have equal terms.
    """

    def __init__(self, **factors):
        for symbol in factors:
            if not is_symbol(symbol):
                raise InvalidName(symbol)
        for symbol in factors:
            if not is_integer(factors[symbol]):
                raise InvalidFactor(factors[symbol])
        self.terms = _terms_of(factors)
        self.symbols = _symbols_of(self.terms)

    @staticmethod
    def read(text):
        """The form with this text."""
        return read_form(text)

    def factor(self, symbol):
        """The factor of the symbol; 0 for any other value."""
        # Another value could claim to equal a symbol, so it is not compared.
        if not isinstance(symbol, str):
            return 0
        for own, many in self.terms:
            if own == symbol:
                return many
        return 0

    def evaluate(self, values):
        """The value of the form for these values."""
        return worth_of(self, table_of(values, self.symbols))

    def __add__(self, other):
        check_form(other)
        return _sum_of(self, other, 1)

    def __sub__(self, other):
        check_form(other)
        return _sum_of(self, other, -1)

    def __neg__(self):
        return _multiple_of(self, -1)

    def __mul__(self, other):
        if not is_integer(other):
            raise InvalidFactor(other)
        return _multiple_of(self, other)

    def __eq__(self, other):
        return isinstance(other, Form) and self.terms == other.terms

    def __str__(self):
        if not self.terms:
            return "0"
        return "".join(_pieces_of(self.terms))

    def __repr__(self):
        return f"Form({str(self)})"


def read_form(text):
    """The form with this text."""
    form = form_in_text(text) if isinstance(text, str) else None
    if form is None or str(form) != text:
        raise InvalidText(text)
    return form


def check_form(value):
    """Raises NotAForm if the value is no form."""
    if not isinstance(value, Form):
        raise NotAForm(value)


def is_form_on(value, symbols):
    """Whether any value is a form with none but these symbols."""
    return isinstance(value, Form) and all([symbol in symbols for symbol in value.symbols])


def put_in(form, table):
    """The form with the forms of a dict in the place of its symbols."""
    factors = {}
    for symbol, many in form.terms:
        for own, factor in table[symbol].terms:
            factors[own] = factors.get(own, 0) + many * factor
    return form_of(factors)


def worth_of(form, table):
    """The value of the form, where a dict has the values of its symbols."""
    return sum([factor * table[symbol] for symbol, factor in form.terms])


def form_of(factors):
    """The form with the factors of a dict, whose keys are symbols."""
    # `self` is a name too, but it cannot be a keyword of Form.
    form = Form()
    form.terms = _terms_of(factors)
    form.symbols = _symbols_of(form.terms)
    return form


def form_in_text(text):
    """The form whose text this may be, or None.

    What is found is right for every text of a form; for other texts it has
    another text, if it is not None. So the caller compares the texts.
    """
    if text == "0":
        return Form()
    words = text.split(" ")
    factors = {}
    for at in range(0, len(words), 2):
        symbol, factor = _term_in_text(words[at])
        if symbol is None:
            return None
        minus = at > 0 and words[at - 1] == "-"
        factors[symbol] = -factor if minus else factor
    return form_of(factors)


def number_in_text(digits):
    """The integer, or None if it is none, or one with more digits than Python reads."""
    try:
        return int(digits)
    except ValueError:
        return None


def _term_in_text(word):
    """The symbol and the factor of a term; None as the symbol if it is no term."""
    sign = 1
    if word.startswith("-"):
        sign = -1
        word = word[1:]
    digits, star, symbol = word.rpartition("*")
    number = number_in_text(digits) if star else 1
    if number is None or not is_symbol(symbol):
        return None, 0
    return symbol, sign * number


def _terms_of(factors):
    return tuple([(symbol, factors[symbol]) for symbol in sorted(factors) if factors[symbol] != 0])


def _symbols_of(terms):
    return tuple([symbol for symbol, _ in terms])


def _sum_of(first, second, number):
    """The first form and `number` times the second one."""
    factors = dict(first.terms)
    for symbol, factor in second.terms:
        factors[symbol] = factors.get(symbol, 0) + factor * number
    return form_of(factors)


def _multiple_of(form, number):
    return form_of({symbol: factor * number for symbol, factor in form.terms})


def _pieces_of(terms):
    """The pieces of the text of a form that has terms."""
    pieces = []
    for symbol, factor in terms:
        if pieces:
            pieces.append(" - " if factor < 0 else " + ")
        elif factor < 0:
            pieces.append("-")
        pieces.append(symbol if abs(factor) == 1 else f"{abs(factor)}*{symbol}")
    return pieces
