"""The interface of the document: names and arguments, each defined in its own file."""

import ast
import inspect
import pathlib
import unittest
from importlib import import_module

from neverjammed import errors

FOLDER = pathlib.Path(__file__).resolve().parent.parent / "neverjammed"

# In the order of the document: a module may use those above it. Those that it does not list (lots, simplex)
# stand where they are needed.
FUNCTIONS = {
    "forms": """is_integer(thing) is_fraction(thing) is_net(thing) is_shares(net, flow, thing) is_split(net, thing)
        is_lot(many, thing) is_prices(net, lot, thing) is_costs(net, thing)""",
    "fractions": """reduced(num, den) added(parts) less(one, other) times(one, other) over(one, other) least_of(parts)
        greatest_of(parts) compared(one, other) common_den(parts)""",
    "nets": """load_of(net, split, flow, link) loads_on(net, split) full_links(net, split) is_let(net, split)
        agree(net, one, other, lot) mean_split(net, splits, parts) with_room(net, link, room)
        with_demand(net, flow, demand) with_way(net, flow, way) ordered_links(net, order) ordered_flows(net, order)
        net_beside(one, other)""",
    "texts": "show_net(net) show_split(split)",
    "reader": "read_net(text) read_split(net, text)",
    "turns": """midst(net, one, other, lot) growths(net, one, other) worst_lot(net, one, other, link)
        lacking_room(net, one, other) is_clean(net, one, other) clean_part(net, one, other)""",
    "lots": "parts_of(lot) together(one, other) without(lot, others)",
    "orders": """let_lots(net, one, other) clean_order(net, one, other) waves_of(net, one, other)
        orders_many(net, one, other) is_order(net, one, other, thing) are_waves(net, one, other, thing)""",
    "courses": """is_course(net, thing) is_road(net, thing) turns_of(road) end_of(road) course_of(road) turned_about(course)
        parts_of_way(net, one, other, many) greatest_loads(net, course) one_by_one(net, course)
        kept_splits(net, course)""",
    "simplex": "least_sum(costs, rows, rights)",
    "shares": """is_efficient(net, flow, shares, lot) is_better(net, flow, shares, lot, thing)
        better_shares(net, flow, shares, lot) efficient_shares(net, flow, shares, lot) lessened(net, flow, shares, lot)
        least_load(net, flow, shares, lot, link)""",
    "prices": """way_cost(net, flow, way, prices) least_cost(net, flow, prices) cheapest_ways(net, flow, prices)
        is_cheapest(net, flow, shares, prices) are_prices_for(net, flow, shares, lot, thing)
        prices_for(net, flow, shares, lot)""",
    "locks": "lock_of(net, split) is_locked(net, split, lot) locked_lots(net, split) thinned(net, split)",
    "lockpapers": "lock_paper(net, split, lot) unlocking(net, split, lot) is_lock_paper(net, split, lot, thing)",
    "loosening": "loosened(net, split) even_parts(net, one, other)",
    "joining": """are_joined(net, one, other) is_bar(net, one, other, thing) road_between(net, one, other)
        bar_between(net, one, other)""",
}
ERRORS = {
    "Wrong": ["place"], "NoText": ["line"], "TooMany": ["most"], "NoneLet": ["paper"], "Jammed": ["link"],
    "NoFlow": ["flow"], "NoLink": ["link"], "NoOrder": ["number"], "NoCommand": [],
}


def listed(module):
    """The listed functions of a module, each with the names of its arguments."""
    found = {}
    for call in FUNCTIONS[module].replace(")", "").replace(", ", ",").split():
        name, _, names = call.partition("(")
        found[name] = names.split(",")
    return found


def defined(module, kind):
    """The names of what the file itself defines, functions or classes."""
    tree = ast.parse((FOLDER / f"{module}.py").read_text())
    return [node.name for node in tree.body if isinstance(node, kind)]


class InterfaceTest(unittest.TestCase):

    def test_functions(self):
        for module in FUNCTIONS:
            found = defined(module, ast.FunctionDef)
            for name, names in listed(module).items():
                self.assertEqual(found.count(name), 1, name)
                parameters = inspect.signature(getattr(import_module(f"neverjammed.{module}"), name)).parameters
                self.assertEqual(list(parameters), names)
                for parameter in parameters.values():
                    self.assertIs(parameter.default, parameter.empty)
                    self.assertIn(parameter.kind, (parameter.POSITIONAL_OR_KEYWORD, parameter.POSITIONAL_ONLY))

    def test_errors(self):
        found = defined("errors", ast.ClassDef)
        self.assertEqual(sorted(found), sorted(["JamError", *ERRORS]))
        for name, names in ERRORS.items():
            parameters = inspect.signature(getattr(errors, name).__init__).parameters
            self.assertEqual(list(parameters), ["self", *names])

    def test_the_file_of_the_package_is_empty(self):
        self.assertEqual((FOLDER / "__init__.py").read_bytes(), b"")


if __name__ == "__main__":
    unittest.main()
