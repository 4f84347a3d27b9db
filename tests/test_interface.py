"""The interface of the document: names and arguments, each defined in its own file."""

import ast
import inspect
import pathlib
import unittest
from importlib import import_module

from neverjammed import errors

FOLDER = pathlib.Path(__file__).resolve().parent.parent / "neverjammed"

# In the order of the document: a module may use those above it.
FUNCTIONS = {
    "forms": """is_integer(thing) is_fraction(thing) is_net(thing) is_shares(net, flow, thing) is_split(net, thing)
        is_lot(many, thing) is_prices(net, lot, thing) is_costs(net, thing)""",
    "fractions": """reduced(num, den) added(parts) less(one, other) times(one, other) over(one, other) least_of(parts)
        greatest_of(parts) compared(one, other) common_den(parts)""",
    "nets": """load_of(net, split, flow, link) loads_on(net, split) full_links(net, split) is_let(net, split)
        agree(net, one, other, lot) mean_split(net, splits, parts) with_room(net, link, room)
        with_demand(net, flow, demand) with_way(net, flow, way) ordered_links(net, order) ordered_flows(net, order)
        net_beside(one, other)""",
    "texts": "show_net(net) show_split(split)",
    "reader": "read_net(text) read_split(net, text)",
    "turns": """midst(net, one, other, lot) growths(net, one, other) worst_lot(net, one, other, link)
        lacking_room(net, one, other) is_clean(net, one, other) clean_part(net, one, other)""",
}
ERRORS = {
    "Wrong": ["place"], "NoText": ["line"], "TooMany": ["most"], "NoneLet": ["paper"], "Jammed": ["link"],
    "NoFlow": ["flow"], "NoLink": ["link"], "NoOrder": ["number"], "NoCommand": [],
}


def listed(module):
    """The listed functions of a module, each with the names of its arguments."""
    found = {}
    for call in FUNCTIONS[module].replace(")", "").replace(", ", ",").split():
        name, _, names = call.partition("(")
        found[name] = names.split(",")
    return found


def defined(module, kind):
    """The names of what the file itself defines, functions or classes."""
    tree = ast.parse((FOLDER / f"{module}.py").read_text())
    return [node.name for node in tree.body if isinstance(node, kind)]


class InterfaceTest(unittest.TestCase):

    def test_functions(self):
        for module in FUNCTIONS:
            found = defined(module, ast.FunctionDef)
            for name, names in listed(module).items():
                self.assertEqual(found.count(name), 1, name)
                parameters = inspect.signature(getattr(import_module(f"neverjammed.{module}"), name)).parameters
                self.assertEqual(list(parameters), names)
                for parameter in parameters.values():
                    self.assertIs(parameter.default, parameter.empty)
                    self.assertIn(parameter.kind, (parameter.POSITIONAL_OR_KEYWORD, parameter.POSITIONAL_ONLY))

    def test_errors(self):
        found = defined("errors", ast.ClassDef)
        self.assertEqual(sorted(found), sorted(["JamError", *ERRORS]))
        for name, names in ERRORS.items():
            parameters = inspect.signature(getattr(errors, name).__init__).parameters
            self.assertEqual(list(parameters), ["self", *names])

    def test_the_file_of_the_package_is_empty(self):
        self.assertEqual((FOLDER / "__init__.py").read_bytes(), b"")


if __name__ == "__main__":
    unittest.main()
