import unittest

from blockmoves import errors
from samples import STRANGE

BASES = {"InputError": ValueError, "StateError": LookupError, "RunError": RuntimeError, "LimitError": ArithmeticError}
FIELDS = {
    "InputError": {
        ("value",): "InvalidName InvalidFactor InvalidText InvalidValues InvalidTruth InvalidPremise InvalidInvariant"
                    " InvalidLetter InvalidBy InvalidPotential InvalidFraction InvalidCount NotAForm NotACondition"
                    " NotAContainer NotAnOperation NotAStore",
        ("index",): "InvalidFacts InvalidArrays InvalidFields InvalidParameters InvalidBegin InvalidCases"
                    " InvalidBranch InvalidSizes InvalidInputs InvalidOutputs InvalidView InvalidResults InvalidState"
                    " InvalidMoves InvalidConditions InvalidOperations InvalidEdit",
        ("place",): "InvalidBody",
    },
    "StateError": {
        ("value",): "NotAllowed",
        ("name",): "UnknownName NameTaken",
        (): "NoView NothingToUndo Busy",
    },
    "RunError": {
        ("place", "kind"): "Stopped NotRight",
        (): "NotComparable",
        ("value",): "Unlike",
        ("name",): "BrokenLimit",
        ("first", "second"): "TargetsMeet",
    },
    "LimitError": {("limit",): "TooMany"},
}


def kinds():
    """(class, base class, fields) of each error class that has a base class in the package."""
    for base, rows in FIELDS.items():
        for fields, names in rows.items():
            for name in names.split():
                yield getattr(errors, name), getattr(errors, base), fields


class ErrorsTest(unittest.TestCase):
    def test_list(self):
        wanted = {kind.__name__ for kind, _, _ in kinds()} | set(BASES)
        found = {name for name, value in vars(errors).items() if isinstance(value, type)}
        self.assertEqual(found, wanted)

    def test_bases(self):
        for name, parent in BASES.items():
            base = getattr(errors, name)
            self.assertEqual(base.__bases__, (parent,))
            self.assertIsInstance(base(), parent)

    def test_instances(self):
        everything = [kind for kind, _, _ in kinds()] + [getattr(errors, name) for name in BASES]
        for kind, base, fields in kinds():
            error = kind(*fields)
            self.assertEqual({each for each in everything if isinstance(error, each)}, {kind, base})
            self.assertIsInstance(error, BASES[base.__name__])

    def test_fields_are_kept(self):
        values = STRANGE + [True, False, 0, -1, 10 ** 59, "", "a", (), ((1,), [2]), errors.NoView()]
        for kind, _, fields in kinds():
            for value in values:
                given = [value] + ["other"] * (len(fields) - 1)
                given = given[:len(fields)]
                by_name = kind(**dict(reversed(list(zip(fields, given)))))
                for error in (kind(*given), by_name):
                    for field, wanted in zip(fields, given):
                        self.assertIs(getattr(error, field), wanted)

    def test_second_field_is_kept(self):
        mark = object()
        self.assertIs(errors.Stopped("a", mark).kind, mark)
        self.assertIs(errors.NotRight(kind=mark, place=1).kind, mark)
        self.assertIs(errors.TargetsMeet(1, mark).second, mark)

    def test_wrong_number_of_fields(self):
        for kind, _, fields in kinds():
            if fields:
                self.assertRaises(TypeError, kind)
                self.assertRaises(TypeError, kind, *fields, "more")

    def test_caught_by_its_base(self):
        for kind, base, fields in kinds():
            for caught in (kind, base, BASES[base.__name__]):
                with self.assertRaises(caught):
                    raise kind(*fields)

    def test_defined_in_the_class_itself(self):
        for kind, _, fields in kinds():
            self.assertEqual("__init__" in vars(kind), bool(fields))


if __name__ == "__main__":
    unittest.main()
