"""Refutations of facts as certificates have them (points 9 and 24 of the document)."""

from blockmoves.errors import InvalidText
from blockmoves.forms import Form, is_integer, read_form


class Book:
    """The refutations that a search has met, each of them once."""

    def __init__(self):
        self.entries = {}

    def note(self, facts, multipliers):
        """Writes the refutation of the facts down: triples (text, strict, multiplier), ascending."""
        sums = {}
        for (form, strict), many in zip(facts, multipliers):
            if many > 0:
                pair = (str(form), strict)
                sums[pair] = sums.get(pair, 0) + many
        self.entries[tuple([(text, strict, sums[text, strict]) for text, strict in sorted(sums)])] = True

    def certificate(self):
        """The tuple of the refutations."""
        return tuple(self.entries)


class Refutations:
    """Refutations, each told by the keys of its facts, to be found by any of them."""

    def __init__(self, all_keys):
        self.by_key = {}
        for keys in all_keys:
            for key in keys:
                self.by_key.setdefault(key, []).append(keys)

    def are_met(self, key, held):
        """Whether all facts of a refutation that has this one are held."""
        return any([all([one in held for one in keys]) for keys in self.by_key.get(key, [])])


def fact_key(fact):
    """The same for equal facts, and unlike for others."""
    form, strict = fact
    return form.terms, strict


def refutations_in(certificate):
    """The refutations of a certificate; None if any value is no tuple of refutations."""
    if not isinstance(certificate, tuple):
        return None
    all_facts = [_facts_refuted_by(triples) for triples in certificate]
    if any([facts is None for facts in all_facts]):
        return None
    return Refutations([[fact_key(fact) for fact in facts] for facts in all_facts])


def _facts_refuted_by(triples):
    """The facts of a refutation; None if any value is none."""
    if not isinstance(triples, tuple):
        return None
    facts = []
    total = Form()
    is_strict = False
    for triple in triples:
        if not _is_triple(triple):
            return None
        text, strict, many = triple
        form = _form_of(text)
        if form is None:
            return None
        facts.append((form, strict))
        total = total + form * many
        is_strict = is_strict or (strict and many > 0)
    if not is_strict or any([factor > 0 for _, factor in total.terms]):
        return None
    return facts


def _is_triple(value):
    if not isinstance(value, tuple) or len(value) != 3:
        return False
    _, strict, many = value
    return (strict is True or strict is False) and is_integer(many) and many >= 0


def _form_of(text):
    """The form with this text, or None."""
    try:
        return read_form(text)
    except InvalidText:
        return None
