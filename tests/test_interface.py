"""The interface of the document: names and arguments, each defined in its own file."""

import ast
import inspect
import pathlib
import unittest
from importlib import import_module

from neverjammed import errors

FOLDER = pathlib.Path(__file__).resolve().parent.parent / "neverjammed"

# In the order of the document: a module may use those above it. Those that it does not list (lots, simplex,
# limits, goals) stand where they are needed.
FUNCTIONS = {
    "forms": """is_integer(thing) is_fraction(thing) is_net(thing) is_shares(net, flow, thing) is_split(net, thing)
        is_lot(many, thing) is_prices(net, lot, thing) is_costs(net, thing)""",
    "fractions": """reduced(num, den) added(parts) less(one, other) times(one, other) over(one, other) least_of(parts)
        greatest_of(parts) compared(one, other) common_den(parts)""",
    "nets": """load_of(net, split, flow, link) loads_on(net, split) full_links(net, split) is_let(net, split)
        agree(net, one, other, lot) mean_split(net, splits, parts) with_room(net, link, room)
        with_demand(net, flow, demand) with_way(net, flow, way) ordered_links(net, order) ordered_flows(net, order)
        net_beside(one, other)""",
    "texts": "show_net(net) show_split(split)",
    "reader": "read_net(text) read_split(net, text)",
    "turns": """midst(net, one, other, lot) growths(net, one, other) worst_lot(net, one, other, link)
        lacking_room(net, one, other) is_clean(net, one, other) clean_part(net, one, other)""",
    "lots": "all_of(row) parts_of(lot) together(one, other) without(lot, others) least_lots(row, holds)",
    "orders": """let_lots(net, one, other) clean_order(net, one, other) waves_of(net, one, other)
        orders_many(net, one, other) is_order(net, one, other, thing) are_waves(net, one, other, thing)""",
    "courses": """is_course(net, thing) is_road(net, thing) turns_of(road) end_of(road) course_of(road) turned_about(course)
        parts_of_way(net, one, other, many) greatest_loads(net, course) one_by_one(net, course)
        kept_splits(net, course)""",
    "simplex": "least_sum(costs, rows, rights) numbers_or_prices(many, rows, rights)",
    "shares": """is_efficient(net, flow, shares, lot) is_better(net, flow, shares, lot, thing)
        better_shares(net, flow, shares, lot) efficient_shares(net, flow, shares, lot) lessened(net, flow, shares, lot)
        least_load(net, flow, shares, lot, link)""",
    "prices": """way_cost(net, flow, way, prices) least_cost(net, flow, prices) cheapest_ways(net, flow, prices)
        is_cheapest(net, flow, shares, prices) are_prices_for(net, flow, shares, lot, thing)
        prices_for(net, flow, shares, lot)""",
    "locks": "lock_of(net, split) is_locked(net, split, lot) locked_lots(net, split) thinned(net, split)",
    "lockpapers": "lock_paper(net, split, lot) unlocking(net, split, lot) is_lock_paper(net, split, lot, thing)",
    "loosening": "loosened(net, split) even_parts(net, one, other)",
    "joining": """are_joined(net, one, other) is_bar(net, one, other, thing) road_between(net, one, other)
        bar_between(net, one, other)""",
    "fewest": """turns_within(net, one, other, count) fewest_turns(net, one, other, most)
        jam_paper(net, one, other, count) is_jam_paper(net, one, other, count, thing)""",
    "limits": """all_ways(net) demand_limits(net, ways) room_limits(net, ways, links, is_most)
        load_limits(net, ways, split, lot) load_parts(net, ways, flow, link) least_within(ways, limits, costs)
        shares_or_prices(ways, limits) split_of(net, ways, numbers) inmost_split(net, ways, limits)""",
    "goals": """goal_of(net, split, costs, lock) costs_by_paper(net, costs, paper) added_up(net, split, costs, paper)""",
    "cheapest": "cost_of(net, split, costs) cheapest(net, split, costs) near_split(net, split, costs, gap)",
    "costpapers": """sum_of_paper(net, split, costs, paper) cost_paper(net, split, costs)
        is_cost_paper(net, split, costs, least, thing)""",
    "inner": "let_split(net) inner_split(net) need_of(net) is_inner(net, split) is_none_paper(net, thing)",
    "lockable": "cheapest_lots(net, flow, lot) lockable_lots(net) split_locking(net, lot) all_joined(net)",
    "freeing": """wider_net(net, lot, amount) idle_net(net, lot) idle_split(net, split, lot)
        frees_by_links(net, one, other, lot) frees_by_flows(net, one, other, lot) freeing_links(net, one, other)
        freeing_flows(net, one, other) road_with_wider(net, one, other, lot, amount)
        road_with_idle(net, one, other, lot)""",
    "control": "",
    "desk": "",
}
METHODS = {
    ("control", "Control"): """__init__(net, split) order(split) can_order(split) may_stand(split) heard(flow, number)
        pending(flow) must_hear(split) worst_loads() worst_numbers(link) sure_split() twin() __eq__(other)""",
    ("desk", "Desk"): "__init__(text) execute(line) control()",
}
ERRORS = {
    "Wrong": ["place"], "NoText": ["line"], "TooMany": ["most"], "NoneLet": ["paper"], "Jammed": ["link"],
    "NoFlow": ["flow"], "NoLink": ["link"], "NoOrder": ["number"], "NoCommand": [],
}


def listed(calls):
    """The listed functions of a module or a class, each with the names of its arguments."""
    found = {}
    for call in calls.replace(")", "").replace(", ", ",").split():
        name, _, names = call.partition("(")
        found[name] = names.split(",") if names else []
    return found


def defined(module, kind):
    """The names of what the file itself defines, functions or classes."""
    tree = ast.parse((FOLDER / f"{module}.py").read_text())
    return [node.name for node in tree.body if isinstance(node, kind)]


class InterfaceTest(unittest.TestCase):

    def test_functions(self):
        for module in FUNCTIONS:
            found = defined(module, ast.FunctionDef)
            for name, names in listed(FUNCTIONS[module]).items():
                self.assertEqual(found.count(name), 1, name)
                parameters = inspect.signature(getattr(import_module(f"neverjammed.{module}"), name)).parameters
                self.assertEqual(list(parameters), names)
                for parameter in parameters.values():
                    self.assertIs(parameter.default, parameter.empty)
                    self.assertIn(parameter.kind, (parameter.POSITIONAL_OR_KEYWORD, parameter.POSITIONAL_ONLY))

    def test_errors(self):
        found = defined("errors", ast.ClassDef)
        self.assertEqual(sorted(found), sorted(["JamError", *ERRORS]))
        for name, names in ERRORS.items():
            parameters = inspect.signature(getattr(errors, name).__init__).parameters
            self.assertEqual(list(parameters), ["self", *names])

    def test_methods_stand_in_their_class_itself(self):
        for (module, name), calls in METHODS.items():
            self.assertEqual(defined(module, ast.ClassDef), [name])
            shape = getattr(import_module(f"neverjammed.{module}"), name)
            for method, names in listed(calls).items():
                self.assertIn(method, vars(shape))
                parameters = inspect.signature(vars(shape)[method]).parameters
                self.assertEqual(list(parameters), ["self", *names])
                self.assertTrue(all(parameter.default is parameter.empty for parameter in parameters.values()))
        self.assertEqual({module for module in FUNCTIONS if not FUNCTIONS[module]}, {module for module, _ in METHODS})

    def test_the_file_of_the_package_is_empty(self):
        self.assertEqual((FOLDER / "__init__.py").read_bytes(), b"")


if __name__ == "__main__":
    unittest.main()
