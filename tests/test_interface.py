import inspect
import unittest

from blockmoves import (
    alike, catalog, certificates, checker, cones, conditions, containers, costs, demands, forms, judging, keeping, operations, rows,
    runs, statements, stores, workshops)


class ExamplesTest(unittest.TestCase):
    """The examples of the document's interface."""

    def test_forms(self):
        from blockmoves.forms import Form
        cap, head = Form(cap=1), Form(head=1)
        self.assertEqual(
            [str(cap * 2 - head), str(head - cap), str(cap - cap), (cap + head).symbols,
             (cap * 3).evaluate((("cap", 4), ("x", 1))), Form.read("2*cap - head") == cap + cap - head,
             (cap * 2 - head).factor("head")],
            ["2*cap - head", "-cap + head", "0", ("cap", "head"), 12, True, -1])

    def test_conditions(self):
        from blockmoves.conditions import read_condition
        condition = read_condition("all(a <= b, not(b = c))")
        self.assertEqual(
            [condition.symbols, condition.parts, condition.depth, condition((("a", 1), ("b", 2), ("c", 2))),
             len(list(condition.ways(True))), len(list(condition.ways(False)))],
            [("a", "b", "c"), 4, 3, False, 2, 2])


class PlacesTest(unittest.TestCase):
    """Everything is defined where the interface lists it, with its parameters."""

    def test_functions(self):
        for module, name, parameters in [
            (forms, "is_name", ["value"]), (forms, "is_symbol", ["value"]), (forms, "is_values", ["value"]),
            (conditions, "read_condition", ["text"]),
            (cones, "find_values", ["facts"]), (cones, "refute", ["facts"]), (cones, "refutes", ["facts", "multipliers"]),
            (containers, "is_sound", ["container"]), (containers, "find_unsound", ["container"]),
            (runs, "run", ["operation", "fields", "cells", "values", "inputs"]),
            (runs, "view_of", ["container", "fields", "cells"]),
            (runs, "promised", ["operation", "fields", "cells", "values", "inputs"]),
            (runs, "is_allowed", ["operation", "fields", "values"]), (stores, "tried", ["store", "deed"]),
            (demands, "demands_of", ["operation"]), (demands, "demands_of_both", ["first", "second", "by"]),
            (demands, "demands_of_kept", ["operation", "condition"]), (demands, "demands_of_container", ["container"]),
            (demands, "demands_of_bound", ["operation", "potential", "form", "fraction"]),
            (judging, "is_right", ["operation"]), (judging, "problems", ["operation"]), (judging, "reached", ["operation"]),
            (judging, "enough", ["operation"]), (judging, "needless", ["operation"]),
            (alike, "alike", ["first", "second", "by"]), (alike, "find_difference", ["first", "second", "by"]),
            (keeping, "is_kept", ["operation", "condition"]), (keeping, "find_broken", ["operation", "condition"]),
            (keeping, "kept_part", ["container", "operations", "conditions"]),
            (keeping, "least_premises", ["operation", "conditions"]), (costs, "worst", ["operation", "form", "potential", "near"]),
            (costs, "worst_beside", ["first", "second", "near"]), (rows, "row_of", ["moves", "premise"]),
            (rows, "ring_of", ["moves", "premise"]), (checker, "holds", ["claim", "certificate"]),
            (certificates, "certify", ["operation"]), (certificates, "certify_alike", ["first", "second", "by"]),
            (certificates, "certify_kept", ["operation", "condition"]),
            (certificates, "certify_bound", ["operation", "potential", "form", "fraction"]),
            (certificates, "certify_sound", ["container"]),
            (catalog, "ring", []), (catalog, "ring_push", []), (catalog, "ring_pop", []), (catalog, "ring_turn", []),
            (catalog, "stack", []), (catalog, "stack_push", []), (catalog, "stack_drop", []),
        ]:
            function = getattr(module, name)
            self.assertEqual(function.__module__, module.__name__)
            self.assertEqual(list(inspect.signature(function).parameters), parameters)

    def test_methods(self):
        for module, name, methods in [
            (forms, "Form", {
                "__init__": None, "read": ["text"], "factor": ["self", "symbol"], "evaluate": ["self", "values"],
                "__add__": None, "__sub__": None, "__neg__": None, "__mul__": None, "__eq__": None, "__str__": None,
                "__repr__": None}),
            (conditions, "Condition", {
                "ways": ["self", "truth"], "__call__": ["self", "values"], "__and__": None, "__or__": None,
                "__invert__": None, "__eq__": None, "__str__": None, "__repr__": None}),
            (conditions, "Below", {"__init__": ["self", "first", "second"]}),
            (conditions, "Upto", {"__init__": ["self", "first", "second"]}),
            (conditions, "Same", {"__init__": ["self", "first", "second"]}),
            (conditions, "Not", {"__init__": ["self", "condition"]}),
            (conditions, "All", {"__init__": ["self", "conditions"]}),
            (conditions, "Any", {"__init__": ["self", "conditions"]}),
            (statements, "Statement", {"__eq__": None, "__str__": None, "__repr__": None}),
            (statements, "Let", {"__init__": ["self", "field", "form"]}),
            (statements, "Copy", {"__init__": ["self", "target", "to", "source", "start", "amount"]}),
            (statements, "Up", {"__init__": ["self", "target", "to", "source", "start", "amount"]}),
            (statements, "Down", {"__init__": ["self", "target", "to", "source", "start", "amount"]}),
            (statements, "Apart", {"__init__": ["self", "target", "to", "source", "start", "amount"]}),
            (statements, "Reverse", {"__init__": ["self", "array", "start", "amount"]}),
            (statements, "Swap", {"__init__": ["self", "first", "at", "second", "start", "amount"]}),
            (statements, "Fill", {"__init__": ["self", "array", "start", "amount", "letter"]}),
            (statements, "Resize", {"__init__": ["self", "array", "length"]}),
            (statements, "If", {"__init__": ["self", "condition", "then", "otherwise"]}),
            (stores, "Store", {
                "__init__": ["self", "container", "values"], "do": ["self", "operation", "values", "inputs"],
                "undo": ["self"], "cells": ["self", "array"], "shown": ["self"], "__len__": ["self"], "__repr__": ["self"],
                "__eq__": None}),
            (stores, "Trial", {"__init__": ["self", "store"], "__enter__": ["self"], "__exit__": None}),
            (workshops, "Workshop", {
                "__init__": ["self", "container"], "do": ["self", "edit"], "do_all": ["self", "edits", "watch"], "undo": ["self"],
                "operation": ["self", "name"], "limit_of": ["self", "name"], "__len__": ["self"], "__contains__": None,
                "__iter__": ["self"], "__eq__": None, "__repr__": ["self"]}),
            (containers, "Container", {
                "__init__": ["self", "arrays", "fields", "parameters", "premise", "begin", "invariant", "cases"],
                "read": ["text"], "__eq__": None, "__str__": None, "__repr__": None}),
            (operations, "Operation", {
                "__init__": ["self", "container", "name", "sizes", "inputs", "outputs", "premise", "body", "view", "results"],
                "read": ["container", "text"], "statement": ["self", "place"], "__eq__": None, "__str__": None,
                "__repr__": None}),
        ]:
            kind = getattr(module, name)
            self.assertEqual(kind.__module__, module.__name__)
            for method, parameters in methods.items():
                self.assertIn(method, vars(kind))
                if parameters is not None:
                    self.assertEqual(list(inspect.signature(getattr(kind, method)).parameters), parameters)

    def test_static_and_generator(self):
        for kind in (forms.Form, containers.Container, operations.Operation):
            self.assertIsInstance(vars(kind)["read"], staticmethod)
        self.assertTrue(inspect.isgeneratorfunction(conditions.Condition.ways))

    def test_bases(self):
        for name in ("Below", "Upto", "Same", "Not", "All", "Any"):
            self.assertEqual(getattr(conditions, name).__bases__, (conditions.Condition,))
        for name in ("Let", "Copy", "Reverse", "Swap", "Fill", "Resize", "If"):
            self.assertEqual(getattr(statements, name).__bases__, (statements.Statement,))
        for name in ("Up", "Down", "Apart"):
            self.assertEqual(getattr(statements, name).__bases__, (statements.Copy,))

    def test_named_alone(self):
        for function, expected in [
            (operations.Operation, ["sizes", "inputs", "outputs", "premise", "body", "view", "results"]), (alike.alike, ["by"]),
            (alike.find_difference, ["by"]), (certificates.certify_alike, ["by"]), (demands.demands_of_both, ["by"]),
            (costs.worst, ["potential", "near"]), (costs.worst_beside, ["near"]), (workshops.Workshop.do_all, ["watch"]),
            (judging.problems, []), (keeping.kept_part, []), (certificates.certify_bound, []), (rows.row_of, []),
        ]:
            parameters = inspect.signature(function).parameters
            named = [name for name, one in parameters.items() if one.kind is one.KEYWORD_ONLY]
            self.assertEqual(named, expected)
        self.assertEqual(inspect.signature(costs.worst).parameters["near"].default, 100)
        self.assertEqual(inspect.signature(alike.alike).parameters["by"].default, "view")


if __name__ == "__main__":
    unittest.main()
