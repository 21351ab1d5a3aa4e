"""The introduction of the interface: names, arguments and the files in which they are defined."""

import importlib
import inspect
import unittest

FUNCTIONS = {
    "shares": ["add_shares(*shares)"],
    "packing": ["state_count(sizes)", "pack(state, sizes)", "unpack(number, sizes)"],
    "naming": ["is_name(value)", "check_names(names)"],
    "trees": [
        "is_tree(value)", "leaf_names(tree)", "forks_of(tree)", "names_beneath(tree, fork, side)", "ways_of(tree)",
        "way_of(tree, writer)", "height_of(tree)",
    ],
    "shaping": [
        "mirror(tree, fork)", "normal_tree(tree)", "graft(tree, writer, beside)", "prune(tree, writer)",
    ],
    "notation": ["format_tree(tree)", "parse_tree(text)"],
    "budgets": [
        "flag_sum(budgets)", "fits(tree, budgets)", "fit_tree(budgets)", "spare_flags(budgets)",
        "least_budget(budgets, writer)", "least_raise(budgets)", "least_total(count)", "even_tree(names)",
    ],
    "listing": ["tree_count(count)", "tree_number(tree)", "tree_at(names, number)", "all_trees(names)"],
    "partial": ["possible_told(plan, marks)", "sure_told(plan, marks)", "needed_cells(plan, state)"],
    "alike": ["parting_state(first, second)"],
    "towns": [
        "is_town(value)", "halls_of(town)", "houses_of(town)", "house_of(town, writer)", "hall_at(town, hall)",
        "ways_to(town, house)",
    ],
    "townsums": [
        "house_sum(town, sizes, house)", "town_fault(town, sizes)", "least_dial(town, sizes, writer)",
        "town_of_tree(tree)",
    ],
    "history": ["run(plan, state, events)", "last_whole(plan, state, events)", "moments_of(plan, state, events)"],
    "routes": ["route(plan, start, goal)", "quiet_route(plan, start, goal)", "quiet_count(plan, state)"],
    "costs": [
        "side_changes(tree, row)", "row_turns(tree, row)", "most_turns(tree, count)", "dearest_row(tree, count)",
        "dearest_rate(tree)",
    ],
    "cheapest": ["cheapest_tree(row)"],
    "overlaps": ["overlapped(plan, state, first, second)", "loses(plan, state, first, second)", "safe_pairs(plan)"],
    "tables": ["table_of(plan)", "told_counts(table, states)", "line_sum(sizes)"],
    "safety": ["safe_states(table)", "safe_way(table, states, state, writer)", "removal_rounds(table)"],
    "ruled": ["safe_rules(table)"],
    "faults": ["is_fault(plan, start, events)", "first_fault(plan, start)", "reachable(plan, start)"],
    "garbled": ["garbled_fault(table, rights, start)", "parity_table(sizes, even, odd)"],
    "scans": [
        "scan(plan, moments, *, first=0, gaps=())", "scan_answers(plan, moments, first=0)",
        "board_answers(plan, moments, first=0)", "excuse(plan, moments, first, last, answer)",
    ],
    "diaries": [
        "diaries_of(plan, state, row)", "told_story(plan, last, diaries)", "heard_before(plan, writer, entry)",
    ],
    "moves": [
        "admitted(plan, state, writer, beside)", "dismissed(plan, state, writer)",
        "joined_plans(first, first_state, second, second_state)", "renamed(plan, state, old, new)",
    ],
    "commands": ["parse_line(line)", "format_line(deed)"],
}
CLASSES = {
    ("shares", "Share"): [
        "__init__(self, top, bottom=1)", "at_most(self, other)", "half_power(k)", "__add__(self, other)",
        "__mul__(self, other)", "__eq__(self, other)", "__str__(self)", "__repr__(self)",
    ],
    ("plans", "Plan"): [
        "start(self)", "check_state(self, state)", "cells_of(self, writer)", "turned(self, state, turns)",
        "updated(self, state, writer, done=None)", "__contains__(self, x)",
    ],
    ("forkplan", "ForkPlan"): [
        "__init__(self, tree)", "told(self, state)", "turns(self, state, writer)", "board(self, state, fork)",
        "told_below(self, state, fork)", "wrong_forks(self, state, writer)", "told_count(self, writer)",
        "fork_of(self, index)", "flags_at(self, fork)", "__str__(self)", "fitted(cls, budgets)",
    ],
    ("dials", "DialCode"): [
        "__init__(self, sizes, rights, copies=1)", "pair_shown(self, marks)",
        "mark_for(self, marks, writer, value, copy)",
    ],
    ("townplan", "TownPlan"): [
        "__init__(self, town, sizes)", "told(self, state)", "turns(self, state, writer)", "board(self, state, hall)",
        "sight(self, state, writer)",
    ],
    ("ratchets", "RatchetPlan"): [
        "__init__(self, town, sizes, rings)", "told(self, state)", "turns(self, state, writer)",
        "board(self, state, hall)", "sight(self, state, writer)", "forward_steps(self, state, writer)",
    ],
    ("history", "History"): [
        "__init__(self, plan, state=None)", "write(self, writer, done=None)", "each_moment(self)", "__len__(self)",
    ],
    ("tables", "ReadingTable"): [
        "__init__(self, sizes, readings)", "told(self, state)", "line_of(self, state, writer)",
    ],
    ("ruled", "RuledTable"): ["__init__(self, sizes, readings, rules)", "turns(self, state, writer)"],
    ("store", "Store"): [
        "__init__(self, plan, state=None)", "record(self, writer)", "spare(self, writer)", "pointer(self, writer)",
        "write(self, writer, text, steps=None)", "step_count(self, writer, text)", "image(self)", "twin(self)",
        "salvage(self, lost)", "from_image(cls, plan, lines)",
    ],
    ("desk", "Desk"): [
        "__init__(self, tree, flag_limit=12)", "write(self, writer, text, steps=None)", "admit(self, writer, beside)",
        "dismiss(self, writer)", "undo(self)", "redo(self)", "batch(self, deeds)", "change_flag_limit(self, limit)",
        "obey(self, line)",
    ],
}


def module_of(name):
    return importlib.import_module(f"forkflags.{name}")


class InterfaceTest(unittest.TestCase):

    def defined_as(self, value, module, written):
        """Ask whether a function is defined in this module and takes these arguments."""
        name = written.partition("(")[0]
        self.assertEqual(value.__module__, module.__name__)
        self.assertEqual(value.__name__, name)
        self.assertEqual(f"{name}{inspect.signature(value)}", written)
        self.assertEqual(value.__code__.co_filename, module.__file__)

    def test_functions(self):
        for module, listed in FUNCTIONS.items():
            for written in listed:
                name = written.partition("(")[0]
                self.defined_as(getattr(module_of(module), name), module_of(module), written)

    def test_methods_stand_in_the_class_itself(self):
        for (module, name), listed in CLASSES.items():
            own = vars(getattr(module_of(module), name))
            for written in listed:
                method = own[written.partition("(")[0]]
                self.defined_as(getattr(method, "__func__", method), module_of(module), written)

    def test_kinds_of_methods(self):
        for (module, name), listed in CLASSES.items():
            own = vars(getattr(module_of(module), name))
            for written in listed:
                first = written.partition("(")[2]
                method = own[written.partition("(")[0]]
                self.assertEqual(isinstance(method, classmethod), first.startswith("cls"), written)
                self.assertEqual(isinstance(method, staticmethod), not first.startswith(("self", "cls")), written)

    def test_generators(self):
        self.assertTrue(inspect.isgeneratorfunction(module_of("listing").all_trees))
        self.assertTrue(inspect.isgeneratorfunction(module_of("history").History.each_moment))

    def test_properties(self):
        for module, name, properties in [
            ("history", "History", {"reading": False}), ("store", "Store", {"newest": False}),
            ("desk", "Desk", {"newest": False, "flag_limit": True}),
        ]:
            own = vars(getattr(module_of(module), name))
            found = {key: own[key].fset is not None for key in own if isinstance(own[key], property)}
            self.assertEqual(found, properties, "a property, and whether it can be assigned")

    def test_class_values(self):
        self.assertEqual(vars(module_of("desk").Desk)["MOST_STEPS"], 400)

    def test_attributes_are_set_when_an_object_is_made(self):
        plan = module_of("forkplan").ForkPlan("a")
        self.assertLessEqual({"plan", "state"}, set(vars(module_of("store").Store(plan))))
        self.assertIn("store", vars(module_of("desk").Desk("a")))

    def test_plans(self):
        plan = module_of("plans").Plan
        for module, name in [
            ("forkplan", "ForkPlan"), ("townplan", "TownPlan"), ("ratchets", "RatchetPlan"), ("tables", "ReadingTable"),
        ]:
            self.assertTrue(issubclass(getattr(module_of(module), name), plan))
        self.assertTrue(issubclass(module_of("ratchets").RatchetPlan, module_of("townplan").TownPlan))
        self.assertTrue(issubclass(module_of("ruled").RuledTable, module_of("tables").ReadingTable))
        # A reading table has no turns, so the base class does not promise any.
        self.assertFalse(hasattr(plan, "told") or hasattr(plan, "turns"))
        self.assertFalse(hasattr(module_of("tables").ReadingTable, "turns"))
