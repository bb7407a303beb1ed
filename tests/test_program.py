"""What the document promises over the whole program: its names, and which values and errors may come anywhere."""

import doctest
import inspect
import re
import unittest
from copy import deepcopy
from importlib import import_module
from pathlib import Path

from starlands.errors import LandError, TooMany
from starlands.realms import Realm
from tests import wrong

INTERFACE = {
    "islands": [
        "cell_count(arms, length)", "land_count(chart)", "touching(arms, length, cell)", "cells_of(chart, land)",
        "arm_of(chart, arm)", "areas(chart)", "map_of(hub, rows)",
    ],
    "borders": [
        "borders(chart)", "land_pairs(chart)", "orders(chart)", "hub_land(chart)", "neighbors(chart, land)",
        "from_orders(length, hub, orders, places)",
    ],
    "takings": [
        "can_take(chart, taking)", "takings(chart)", "done(chart, row)", "traced(chart, row)",
        "taken_back(chart, taking)",
    ],
    "hubs": [
        "hub_takings(chart)", "is_frozen(chart)", "bare_arms(chart)", "lands_on(chart)", "own_lands(chart)",
        "other_lands(chart)", "ever_hub(chart)",
    ],
    "classes": [
        "same_class(one, other)", "class_maps(chart)", "class_size(chart)", "map_count(arms, length, lands)",
        "great_class(arms, length, lands)", "class_counts(arms, length, lands)", "first_map(arms, length, lands)",
    ],
    "ways": [
        "distance(one, other)", "fewest(one, other)", "shows_fewest(one, other, value)", "farthest(chart)",
        "way_count(one, other, many)", "around(chart, many)",
    ],
    "turns": ["fewest_turns(one, other)", "turn_row(one, other)", "turn_counts(chart)"],
    "touch": [
        "area_ranges(chart)", "ever_touch(chart)", "always_touch(chart)", "border_moves(chart)",
        "line(chart, one, other)",
    ],
    "worths": [
        "worth(chart, values)", "best_in_class(chart, values)", "best_map(arms, length, values)",
        "shows_best_in_class(chart, values, value)", "shows_best_map(arms, length, values, value)",
        "climb(chart, values)",
    ],
    "chances": [
        "after_chances(chart, many)", "long_share(chart)", "mean_back(chart)", "mean_first(one, other)",
        "hub_shares(chart)", "mean_areas(chart)",
    ],
    "draws": ["drawn_chances(chart, many)", "drawn_share(chart)", "still_chance(chart)", "drawn_first(one, other)"],
    "told": [
        "fitting(arms, length, lands, told)", "class_fitting(chart, told)", "fit_count(arms, length, lands, told)",
        "sure_cells(arms, length, lands, told)", "told_chances(arms, length, lands, told)",
        "nearest_fitting(chart, told)",
    ],
    "rules": [
        "ruled(chart, rule)", "rule_row(one, other, rule)", "rule_distance(one, other, rule)",
        "rule_maps(chart, rule)",
    ],
    "prices": [
        "cheap_row(one, other, prices)", "cheapest_from(chart, prices)",
        "shows_cheap_row(one, other, prices, value)", "shows_price_paper(one, other, prices, value)",
    ],
    "hands": [
        "can_hold(chart, land, many)", "least_hold(chart, land)", "hold_takings(chart, land, many)",
        "area_play(chart, land, many)",
    ],
    "names": ["renamed(chart, order)", "turned(chart, order)", "form(chart)", "alike(one, other)", "own_turns(chart)"],
    "texts": ["write_chart(chart)", "read_chart(text)"],
    "frozen": [
        "border_places(chart)", "frozen_distance(one, other)", "frozen_count(arms, length, lands)",
        "great_count(arms, length, lands)", "great_frozen(arms, length, lands)", "great_classes(arms, length, lands)",
        "frozen_share(arms, length, lands)", "same_chance(arms, length, lands)",
    ],
    "middle": [
        "between(one, other)", "middle_maps(some)", "shortest_count(one, other)", "sum_of_ways(some)",
        "tour(one, some)",
    ],
    "follow": [
        "can_follow(chart, lands)", "follow_row(chart, lands)", "follow_count(chart, many)", "next_hubs(chart)",
        "hub_distances(chart)", "hub_within(chart, many)", "mean_hub(chart, land)",
    ],
    "areas": [
        "area_lists(chart)", "area_maps(chart, areas)", "area_distance(chart, areas)",
        "area_count(arms, length, areas)", "area_shares(chart, land)",
    ],
    "trees": [
        "ever_trees(chart)", "tree_maps(chart, pairs)", "tree_count(arms, length, lands, pairs)", "ends(chart)",
    ],
    "tries": [
        "tried(chart, tries)", "made_of(chart, tries)", "tried_rest(chart, tries)", "order_free(chart, one, other)",
    ],
    "calm": [
        "wanted(chart, values)", "is_calm(chart, values)", "goes_calm(chart, values)", "calm_maps(chart, values)",
        "calm_ends(chart, values)", "quickest_calm(chart, values)",
    ],
    "nets": [
        "best_net(chart, values, prices)", "best_stay(chart, values, prices, many)",
        "shows_best_net(chart, values, prices, value)", "shows_best_stay(chart, values, prices, many, value)",
    ],
    "arranged": [
        "arrangements(chart)", "arrangement_count(arms, lands)", "all_arrangements(arms, lands)",
        "turns_between(one, other)", "degree_counts(chart)", "freest(chart)", "shows_freest(chart, value)",
    ],
    "rowtexts": ["write_row(row)", "read_row(text)"],
    "fixed": ["fixed_maps(chart, cells)", "fixed_distance(one, other, cells)", "free_cells(chart)"],
    "whole": [
        "links(chart)", "diameter(chart)", "shortest_round(chart)", "centers(chart)", "mean_distance(chart)",
        "swap_takings(chart, one, other)", "turn_takings(chart, order)", "names_to_come(chart)",
    ],
}
METHODS = ["take(land, cell)", "chart()", "row()", "hub()", "undo()"]

FULL = (3, (0, 0, 0, 1, 1, 2, 2))
FROZEN = (3, (0, 0, 0, 0, 0, 0, 1))
GREAT = (4, (0, 0, 0, 0, 1, 0, 0, 0, 2, 0, 0, 0, 3, 0, 0, 0, 4))
VALUES = ((1, 1, 1, 1, 1, 1, 1), (0, 0, 5, 0, 0, 5, 2), (0, -1, 0, 0, 0, 5, 100))

# A right value for each name of an argument, and for the names that mean something else in a function.
RIGHT = {
    "arms": 3, "length": 2, "lands": 3, "chart": FULL, "one": FULL, "other": wrong.MAP, "many": 2, "land": 1,
    "cell": 3, "arm": 1, "hub": 0, "rows": ((0, 0), (0, 1), (2, 2)), "orders": ((), (1,), (2,)),
    "places": ((), (1,), (0,)), "taking": (1, 0), "row": ((1, 0),), "values": VALUES, "told": ((0, 0),),
    "rule": ((0, 1), (1, 0)), "prices": (1, 0, 1000), "order": (2, 0, 1), "text": "0 | 0 0 | 0 1 | 2 2",
    "some": (FULL, wrong.MAP), "areas": (3, 2, 2), "pairs": ((0, 1), (0, 2)), "tries": ((1, 0), (0, 0)),
    "cells": (0, 3), "value": None,
}
OTHERWISE = {
    "line": {"one": 0, "other": 1}, "swap_takings": {"one": 0, "other": 1}, "can_follow": {"lands": (0, 1)},
    "follow_row": {"lands": (0, 1)}, "order_free": {"one": (0, 3), "other": (0, 5)}, "read_row": {"text": "0>3 2>11"},
    "frozen_distance": {"one": FROZEN, "other": FROZEN},
}
MORE = [
    wrong.MAP, FULL, FROZEN, GREAT, (3, (0, 0, 0, 1)), VALUES, VALUES[:2], (1, 0, 1000), (2, 0, 1), ((0, 1), (1, 0)),
    (FULL, GREAT), (GREAT,), ((1, 0), (1, 9)), ((1, 0),) * 41, (0, 1, 2, 0, 0), "0>3", "0 | 0 0 | 0 1 | 2 2",
    (3, 2, 2), (3, 3, 3), ((0, 3),), (0, (FULL,)), (12, FULL), (2, ((1, 0),)), ((0, ()), ()), (0, ()),
]
VALUES_OF_EVERY_KIND = wrong.EVERYTHING + MORE
NEVER_RIGHT = [True, False, None, -1, 10 ** 30, "x", [], [0], {}, {0: 1}, (True,), (None, 0), ({}, []), ("0", "1", "2")]


def functions():
    """All functions of the interface with their modules, names and arguments."""
    for module, told in INTERFACE.items():
        for line in told:
            name, args = line[:-1].split("(")
            yield f"starlands.{module}", name, args.split(", ")


def calls():
    """All functions with right values for their arguments."""
    for module, name, args in functions():
        right = {**RIGHT, **OTHERWISE.get(name, {})}
        yield getattr(import_module(module), name), name, [right[arg] for arg in args]


def outcome(function, args):
    """What comes of a call: the value, or the error with its fields."""
    try:
        return ("value", function(*args))
    except LandError as error:
        return (type(error), vars(error))


def holds_only(value, is_one):
    if isinstance(value, tuple):
        return all(holds_only(thing, is_one) for thing in value)
    return is_one(value)


def is_number_or_none(value):
    return value is None or type(value) is int


class ProgramTest(unittest.TestCase):
    def test_names_and_arguments(self):
        for module, name, args in functions():
            function = getattr(import_module(module), name)
            self.assertTrue(inspect.isfunction(function), name)
            self.assertEqual(function.__module__, module)
            self.assertEqual(list(inspect.signature(function).parameters), args, name)

    def test_the_realm_and_its_methods(self):
        self.assertEqual(Realm.__module__, "starlands.realms")
        self.assertEqual(list(inspect.signature(Realm).parameters), ["chart"])
        for line in METHODS:
            name, args = line[:-1].split("(")
            self.assertIn(name, vars(Realm))
            wanted = ["self"] + [arg for arg in args.split(", ") if arg]
            self.assertEqual(list(inspect.signature(vars(Realm)[name]).parameters), wanted)

    def test_right_arguments(self):
        for function, name, args in calls():
            kind, value = outcome(function, args)
            self.assertEqual(kind, "value", (name, value))
            self.check_kind(name, value)

    def check_kind(self, name, value):
        """Truth values come alone, texts of writing alone; all other values are integers, None and tuples of such."""
        told = name.split("_")[0] in ("shows", "can", "is", "goes") or name in ("same_class", "alike", "order_free")
        if told:
            self.assertIs(type(value), bool, name)
        elif name.startswith("write"):
            self.assertIs(type(value), str, name)
        else:
            self.assertTrue(holds_only(value, is_number_or_none), (name, value))

    def test_values_of_every_kind_in_each_place(self):
        for function, name, args in calls():
            for place in range(len(args)):
                for value in VALUES_OF_EVERY_KIND:
                    given = args[:place] + [value] + args[place + 1:]
                    before = deepcopy(given)
                    kind, told = outcome(function, given)
                    self.assertEqual(repr(given), repr(before), name)
                    if kind == "value":
                        self.check_kind(name, told)
                    else:
                        self.assertIs(kind.__base__, LandError)

    def test_equal_arguments_have_equal_answers(self):
        for function, name, args in calls():
            for place in range(len(args)):
                for value in VALUES_OF_EVERY_KIND[::7]:
                    given = args[:place] + [value] + args[place + 1:]
                    self.assertEqual(outcome(function, given), outcome(function, deepcopy(given)), name)

    def test_the_leftmost_error(self):
        pairs = 0
        for function, name, args in calls():
            places = len(args) - name.startswith("shows")
            for place in range(places):
                for value in NEVER_RIGHT:
                    given = args[:place] + [value] + args[place + 1:]
                    told = outcome(function, given)
                    self.assertNotEqual(told[0], "value", (name, given))
                    self.assertIsNot(told[0], TooMany)
                    for later in range(place + 1, len(args)):
                        for value_behind in VALUES_OF_EVERY_KIND[::3]:
                            again = given[:later] + [value_behind] + given[later + 1:]
                            self.assertEqual(outcome(function, again), told, (name, again))
                            pairs += 1
        self.assertGreater(pairs, 5000)

    def test_too_many_comes_last(self):
        for module, name, args in (
            ("told", "fitting", (4, 4, 5, None)), ("told", "fitting", (4, 4, 9, None)),
            ("told", "fitting", (4, 4, 9, ())),
            ("told", "sure_cells", (4, 4, 5, ((0, 9),))), ("told", "sure_cells", (4, 4, None, ())),
            ("chances", "mean_first", (GREAT, FULL)), ("chances", "mean_first", (GREAT, None)),
            ("draws", "drawn_first", (GREAT, FULL)), ("draws", "drawn_first", (GREAT, [])),
            ("follow", "mean_hub", (GREAT, 5)), ("follow", "mean_hub", (GREAT, True)),
        ):
            kind, _ = outcome(getattr(import_module(f"starlands.{module}"), name), args)
            self.assertTrue(issubclass(kind, LandError), name)
            self.assertIsNot(kind, TooMany, name)
        for module, name, args, most in (
            ("told", "fitting", (4, 4, 5, ()), 10), ("told", "sure_cells", (4, 4, 5, ()), 10),
            ("chances", "mean_first", (GREAT, GREAT), 30), ("draws", "drawn_first", (GREAT, GREAT), 30),
            ("follow", "mean_hub", (GREAT, 0), 30), ("whole", "diameter", (GREAT,), 120),
            ("whole", "centers", (GREAT,), 120), ("whole", "mean_distance", (GREAT,), 120),
        ):
            told = outcome(getattr(import_module(f"starlands.{module}"), name), args)
            self.assertEqual(told, (TooMany, {"most": most}), name)

    def test_functions_that_show_something(self):
        shown = [told for told in calls() if told[1].startswith("shows")]
        self.assertEqual(len(shown), 8)
        for function, name, args in shown:
            for value in VALUES_OF_EVERY_KIND:
                self.assertIs(type(function(*args[:-1], value)), bool, name)
            best = getattr(import_module(function.__module__), name[len("shows_"):], None)
            if best is not None:
                told = best(*args[:-1])
                self.assertIs(function(*args[:-1], told), True, name)
                self.assertIs(function(*args[:-1], list(told)), False, name)
            for place in range(len(args) - 1):
                for value in NEVER_RIGHT:
                    given = args[:place] + [value] + args[place + 1:-1]
                    for last in (None, 0, (), best and best(*args[:-1])):
                        kind, _ = outcome(function, given + [last])
                        self.assertTrue(kind != "value" and issubclass(kind, LandError), name)

    def test_a_realm_is_as_before_an_error(self):
        realm = Realm(FULL)
        realm.take(1, 0)
        for land in VALUES_OF_EVERY_KIND:
            for cell in (0, None, 7):
                kind, _ = outcome(realm.take, (land, cell))
                if kind == "value":
                    realm.undo()
                self.assertEqual((realm.chart(), realm.row()), ((3, (1, 0, 0, 1, 1, 2, 2)), ((1, 0),)))
                self.assertEqual(realm.hub(), (0, 1))

    def test_the_examples_of_the_readme(self):
        text = (Path(__file__).resolve().parent.parent / "README.md").read_text()
        runner = doctest.DocTestRunner()
        for block in re.findall("```\n(.*?)```", text, re.DOTALL):
            runner.run(doctest.DocTestParser().get_doctest(block, {}, "README.md", None, None))
        self.assertEqual(runner.summarize(verbose=False).failed, 0)
        self.assertGreater(runner.summarize(verbose=False).attempted, 10)


if __name__ == "__main__":
    unittest.main()
