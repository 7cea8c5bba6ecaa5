import inspect
import unittest

from blockmoves import conditions, forms


class ExamplesTest(unittest.TestCase):
    """The examples of the document's interface."""

    def test_forms(self):
        from blockmoves.forms import Form
        cap, head = Form(cap=1), Form(head=1)
        self.assertEqual(
            [str(cap * 2 - head), str(head - cap), str(cap - cap), (cap + head).symbols,
             (cap * 3).evaluate((("cap", 4), ("x", 1))), Form.read("2*cap - head") == cap + cap - head,
             (cap * 2 - head).factor("head")],
            ["2*cap - head", "-cap + head", "0", ("cap", "head"), 12, True, -1])

    def test_conditions(self):
        from blockmoves.conditions import read_condition
        condition = read_condition("all(a <= b, not(b = c))")
        self.assertEqual(
            [condition.symbols, condition.parts, condition.depth, condition((("a", 1), ("b", 2), ("c", 2))),
             len(list(condition.ways(True))), len(list(condition.ways(False)))],
            [("a", "b", "c"), 4, 3, False, 2, 2])


class PlacesTest(unittest.TestCase):
    """Everything is defined where the interface lists it, with its parameters."""

    def test_functions(self):
        for module, name, parameters in [
            (forms, "is_name", ["value"]), (forms, "is_symbol", ["value"]), (forms, "is_values", ["value"]),
            (conditions, "read_condition", ["text"]),
        ]:
            function = getattr(module, name)
            self.assertEqual(function.__module__, module.__name__)
            self.assertEqual(list(inspect.signature(function).parameters), parameters)

    def test_methods(self):
        for module, name, methods in [
            (forms, "Form", {
                "__init__": None, "read": ["text"], "factor": ["self", "symbol"], "evaluate": ["self", "values"],
                "__add__": None, "__sub__": None, "__neg__": None, "__mul__": None, "__eq__": None, "__str__": None,
                "__repr__": None}),
            (conditions, "Condition", {
                "ways": ["self", "truth"], "__call__": ["self", "values"], "__and__": None, "__or__": None,
                "__invert__": None, "__eq__": None, "__str__": None, "__repr__": None}),
            (conditions, "Below", {"__init__": ["self", "first", "second"]}),
            (conditions, "Upto", {"__init__": ["self", "first", "second"]}),
            (conditions, "Same", {"__init__": ["self", "first", "second"]}),
            (conditions, "Not", {"__init__": ["self", "condition"]}),
            (conditions, "All", {"__init__": ["self", "conditions"]}),
            (conditions, "Any", {"__init__": ["self", "conditions"]}),
        ]:
            kind = getattr(module, name)
            self.assertEqual(kind.__module__, module.__name__)
            for method, parameters in methods.items():
                self.assertIn(method, vars(kind))
                if parameters is not None:
                    self.assertEqual(list(inspect.signature(getattr(kind, method)).parameters), parameters)

    def test_static_and_generator(self):
        self.assertIsInstance(vars(forms.Form)["read"], staticmethod)
        self.assertTrue(inspect.isgeneratorfunction(conditions.Condition.ways))

    def test_bases(self):
        for name in ("Below", "Upto", "Same", "Not", "All", "Any"):
            self.assertEqual(getattr(conditions, name).__bases__, (conditions.Condition,))


if __name__ == "__main__":
    unittest.main()
