"""The interface: each name is defined in the file under which it is listed, with its arguments."""

import importlib
import inspect

from tests.checks import Case

FUNCTIONS = {
    "ratio": ["as_ratio(number)"],
    "whole": ["divisors(number)", "units(number)"],
    "differences": ["meetings(one, other)", "differences(lot)"],
    "evenlots": ["is_even(lot)", "even_count(hours, size)", "even_lots(hours, size)", "squares(prime)",
                 "told_back(counts)"],
    "layings": ["starts_of(parts, hours, index)", "lay(target, tiles)", "layings(target, tiles)",
                "count_layings(target, tiles)"],
    "partners": ["starts_once(lot)", "count_starts_once(lot)"],
    "fewest": ["is_enough(lots, needs, starts)", "fewest_starts(lots, needs)"],
    "charts": ["chart(watch)"],
    "spreads": ["total_tries(house, spread)", "spreads(house, *, tries=1, known=())",
                "count_spreads(cells, *, tries=1)"],
    "losses": ["loss(watch, spread)"],
    "best": ["best_spread(watches, weights, *, tries=1, known=())"],
    "posts": ["postings(house, guards)", "count_postings(gates, guards)"],
    "duels": ["duel(rows)", "closes(rows, worth, shares_one, shares_two)"],
    "pasts": ["total_looks(house, past)", "fits(watch, past)", "left_of(family, past)", "known_cells(past)",
              "join_pasts(house, one, two)", "pasts(family, *, looks=0)"],
    "tables": ["close_table(family, bound, *, tries=1, looks=0)"],
    "settles": ["settle(family, parts, *, tries=1, looks=0)", "borne(family, bound, *, tries=1)"],
    "turning": ["turned_bound(watch, *, tries=1, looks=0)"],
    "orbits": ["close_turns(watches, bound, *, tries=1, looks=0)"],
    "floors": ["no_look_bound(house, lots)", "one_look_bound(house, lots)",
               "floor_bound(hours, size, stake, *, looks=0)", "best_lots(hours, size)",
               "best_starts(beat, guards, *, tries=1, looks=0)"],
    "afterwards": ["after(weights, family, past)", "seen_chances(weights, family, cell)",
                   "mean_loss(weights, family, spread)"],
    "leaves": ["leaves(family, *, looks=0)"],
    "asking": ["fixed_cells(family)"],
    "people": ["man(plan, people)"],
    "kept": ["tried(kept, deeds)"],
    "stretches": ["common(one, other, by)", "bends(one, other)"],
    "great": ["great_bound(great, *, looks=0)"],
    "words": ["write_number(number)", "write_lot(lot)", "write_spread(house, spread)", "write_past(house, past)",
              "read_number(text)", "read_lot(text)", "read_spread(house, text)", "read_past(house, text)"],
    "texts": ["write_book(book)", "read_book(text)"],
}
GENERATORS = ["evenlots.even_lots", "evenlots.told_back", "layings.layings", "partners.starts_once",
              "houses.House.cells", "watches.Watch.unmet", "spreads.spreads", "posts.postings", "pasts.pasts"]
METHODS = {
    "ratio.Ratio": ["__init__(self, top, under=1)", "over(self, number)", "floor(self)", "ceiling(self)"],
    "lots.Lot": ["__init__(self, hours, members)", "least_turn(self)", "full(hours)"],
    "layings.Laying": [],
    "fewest.Fewest": [],
    "houses.House": ["__init__(self, hours, gates)", "gate(self, name)", "cells(self)", "__len__(self)"],
    "beats.Beat": ["__init__(self, house, steps)", "lot(self, gate)"],
    "crews.Crew": ["__init__(self, beat, starts)", "row(self, gate)", "working(self, start)", "__len__(self)"],
    "watches.Watch": ["__init__(self, house, rows)", "met(self, gate, *, least=1)", "unmet(self, least)",
                      "covers(self, other)", "of_lots(house, lots)", "empty(house)"],
    "plans.Plan": ["__init__(self, house, *crews)", "watch(self)", "without(self, index)", "sole(self, index)"],
    "best.Best": ["gain(self, i, x)", "most_from(self, i, left)"],
    "duels.Duel": [],
    "families.Family": ["__init__(self, house, watches)", "kinds(self)", "turns(watch)", "__len__(self)"],
    "tables.Table": ["gap(self, past, spread)", "gain_on(self, index)", "narrowest(self)"],
    "turning.Turned": [],
    "orbits.TurnTable": [],
    "asking.Asking": ["__init__(self, family)", "need(self, indexes)", "next_cell(self, indexes)", "questions(self)"],
    "people.Manning": [],
    "tickets.Tickets": ["__init__(self, weights)", "many(self, index)", "ticket(self, number)"],
    "kept.Kept": ["undo(self)", "redo(self)", "run(self, deeds)", "trial(self)"],
    "kept.Trial": ["__enter__(self)", "__exit__(self, kind, value, trace)"],
    "season.Season": ["__init__(self, family, weights, *, bound, tries=1, looks=1)", "draw(self, ticket)",
                      "look(self, gate, hour)", "attempt(self, spread)", "left(self)", "weights_now(self)",
                      "worst(self)", "safe(self)"],
    "roster.Roster": ["__init__(self, plan, people)", "manning(self)", "away(self, name)", "back(self, name)",
                      "allow(self, name, lot)", "put(self, crew)", "strike(self, index)"],
    "stretches.Stretches": ["__init__(self, hours, stretches)", "listed(self)"],
    "great.GreatWatch": ["__init__(self, hours, stakes, rows)", "listed(self)"],
    "great.GreatBound": [],
    "books.Book": ["__init__(self, house)", "add_beat(self, name, beat)", "beat_named(self, name)",
                   "set_plan(self, name, plan)", "drop(self, name)", "copied(self)", "__len__(self)"],
    "desk.Desk": ["__init__(self, book)", "book(self)", "run(self, lines)"],
}
BASES = {"season.Season": "kept.Kept", "roster.Roster": "kept.Kept"}
OPERATORS = {
    "ratio.Ratio": "add radd sub rsub mul rmul floordiv mod pow neg abs bool eq lt le gt ge str",
    "lots.Lot": "len iter contains eq lshift rshift neg invert or and mul rmul add mod pow",
    "houses.House": "len eq",
    "beats.Beat": "getitem lshift eq",
    "crews.Crew": "len lshift eq",
    "watches.Watch": "getitem lshift neg mul rmul add eq",
    "plans.Plan": "lshift add eq",
    "families.Family": "len iter getitem contains add lshift eq",
    "roster.Roster": "iadd",
    "stretches.Stretches": "contains lshift invert mul eq",
    "books.Book": "getitem setitem len iter contains eq",
}
PROPERTIES = {
    "ratio.Ratio": ["whole"],
    "lots.Lot": ["members", "step"],
    "watches.Watch": ["rows", "step"],
    "plans.Plan": ["guards"],
    "families.Family": ["goes_round"],
    "tables.Table": ["held"],
    "orbits.TurnTable": ["held"],
    "people.Manning": ["missing"],
    "kept.Kept": ["done"],
    "season.Season": ["standing", "looked", "lost", "draws"],
    "roster.Roster": ["plan", "present", "missing"],
    "stretches.Stretches": ["pieces", "size"],
    "great.GreatWatch": ["lots"],
    "books.Book": ["beat_names"],
}


def found(path):
    """What stands under a path of a file and names."""
    names = path.split(".")
    place = importlib.import_module("watchbeats." + names[0])
    for name in names[1:]:
        place = getattr(place, name)
    return place


class InterfaceTest(Case):

    def test_functions(self):
        for file, forms in FUNCTIONS.items():
            for form in forms:
                function = found(f"{file}.{form.split('(')[0]}")
                self.assertEqual(function.__module__, f"watchbeats.{file}")
                self.assertEqual(function.__name__ + str(inspect.signature(function)), form)

    def test_generators(self):
        for path in GENERATORS:
            self.assertTrue(inspect.isgeneratorfunction(found(path)), path)

    def test_methods(self):
        for path, forms in METHODS.items():
            kind = found(path)
            base = found(BASES[path]) if path in BASES else object
            self.assertEqual((kind.__module__, kind.__bases__), ("watchbeats." + path.split(".")[0], (base,)))
            for form in forms:
                name = form.split("(")[0]
                self.assertIn(name, vars(kind))
                self.assertEqual(name + str(inspect.signature(getattr(kind, name))), form)

    def test_operators(self):
        for path, names in OPERATORS.items():
            for name in names.split():
                self.assertIn(f"__{name}__", vars(found(path)))

    def test_properties(self):
        for path, names in PROPERTIES.items():
            for name in names:
                self.assertIsInstance(vars(found(path))[name], property)

    def test_class_values(self):
        for path, value in {"lots.Lot.MOST": 360, "houses.House.MOST_HOURS": 24, "houses.House.MOST_GATES": 4,
                            "houses.House.MOST_CELLS": 48, "houses.House.MOST_STAKE": 60,
                            "watches.Watch.MOST": 96, "families.Family.MOST": 8,
                            "stretches.Stretches.MOST": 6}.items():
            self.assertEqual(found(path), value)
