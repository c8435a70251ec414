"""The names, parameters and defaults that the document lists, in the files under which it lists them."""

import ast
import importlib
import inspect
import unittest
from pathlib import Path

FOLDER = Path(__file__).resolve().parent.parent / "flowyard"
FUNCTIONS = {
    "basics": ["is_integer(value)", "is_count(value)", "is_sign(value)", "is_text(value)"],
    "yards": ["joined(one, outlet, other)", "renumbered(yard, order)"],
    "runs": ["begin_of(yard, stream)", "can_be_done(yard, state, sizes=None)", "done(yard, state, station, sizes=None)",
             "is_run(yard, stream, value, sizes=None)", "state_behind(yard, stream, run, sizes=None)",
             "is_full(yard, stream, run, sizes=None)", "full_run(yard, stream, sizes=None)",
             "end(yard, stream, sizes=None)", "flows(yard, stream)"],
    "needs": ["beats(yard, stream, sizes=None)", "needs(yard, stream, beat, sizes=None)",
              "must_be_ahead(yard, stream, first, second, sizes=None)", "chain(yard, stream, first, second, sizes=None)",
              "is_chain(yard, stream, first, second, value, sizes=None)",
              "run_against(yard, stream, first, second, sizes=None)",
              "is_run_against(yard, stream, first, second, value, sizes=None)",
              "exchanges(yard, stream, one, other, sizes=None)", "are_exchanges(yard, stream, one, other, value, sizes=None)",
              "how_many_full(yard, stream, sizes=None)"],
    "terms": ["is_term(value)", "flow_of(term, stream)", "put_in(term, other)", "plain(term)", "slope(term)", "is_even(term)"],
    "compiling": ["compiled(term)", "station_for(term)"],
    "fusing": ["can_fuse(yard, pipe)", "joint_standings(yard, pipe)", "fused_at(yard, pipe)", "fused(yard)"],
    "rests": ["rests(yard)", "rest_behind(yard, stream)", "step(yard, rest, sign)", "stream_to(yard, rest)",
              "is_held(yard, number)", "overfilling(yard, number)", "is_held_paper(yard, number, value)",
              "is_overfilling(yard, number, value)"],
    "same": ["are_same(one, other)", "parting(one, other)", "same_paper(one, other)", "is_same_paper(one, other, value)",
             "is_parting(one, other, value)", "least_table(yard)", "classes(yard)", "is_table_of(yard, value)"],
    "forever": ["endless_flow(yard, outlet, begin, lap)", "settled_flow(yard, outlet, rest)",
                "are_same_for_ever(one, one_exit, other, other_exit)", "ahead_list(one, one_exit, other, other_exit)",
                "is_ahead_list(one, one_exit, other, other_exit, value)",
                "endless_parting(one, one_exit, other, other_exit)",
                "is_endless_parting(one, one_exit, other, other_exit, value)"],
    "room": ["lacking(yard, state, sizes)", "are_enough_for(yard, sizes, stream)", "are_enough(yard, sizes)",
             "room_list(yard, sizes)", "still_stream(yard, sizes)", "standstill(yard, sizes)",
             "is_room_list(yard, sizes, value)", "is_standstill(yard, sizes, value)", "least_sizes(yard)",
             "spare(yard, sizes)", "fullest(yard, sizes)"],
    "rings": ["waits_for(yard, sizes, stream, beat)", "stays_for(yard, sizes, stream, beat)",
              "reason(yard, sizes, stream)", "is_reason(yard, sizes, stream, value)", "least_for(yard, stream)"],
    "clock": ["times(yard, stream, apart, sizes=None)", "over_at(yard, stream, apart, sizes=None)",
              "given_at(yard, stream, apart, outlet, sizes=None)", "is_timing(yard, stream, apart, value, sizes=None)",
              "lateness(yard, stream, apart, sizes=None)", "links(yard, stream, sign, sizes=None)"],
    "pace": ["delay(yard, apart, sizes=None)", "heights(yard, apart, sizes=None)",
             "are_heights(yard, apart, bound, value, sizes=None)", "late_stream(yard, apart, sizes=None)",
             "is_later(yard, apart, bound, value, sizes=None)", "pace(yard, sizes=None)", "slowest(yard, sizes=None)",
             "ring_mean(yard, value, sizes=None)", "scaled_heights(yard, sizes=None)",
             "are_scaled(yard, value, sizes=None)", "keeping_sizes(yard)"],
    "wishes": ["watching_station(wish, lot)"],
}
CLASSES = {
    ("yards", "Station"): ["__init__(self, ins, outs, standings)", "standings(self)", "reads(self, standing)",
                           "row(self, standing, signs)", "__len__(self)", "__eq__(self, other)", "__repr__(self)"],
    ("yards", "Yard"): ["__init__(self, stations, pipes, begin=None)", "begun(self, begin)", "__len__(self)",
                        "__eq__(self, other)", "__repr__(self)"],
    ("wishes", "Wish"): ["__init__(self, goals, good)", "goals(self)", "good(self)", "lots(self)", "goes(self, place, text)",
                         "passed(self, place, text)", "last_lot(self, begin, lap)", "__len__(self)", "__invert__(self)",
                         "__eq__(self, other)", "__repr__(self)"],
}
PROPERTIES = {("yards", "Station"): ["ins", "outs"], ("yards", "Yard"): ["stations", "pipes", "begin", "exits"]}
CLASS_VALUES = {("yards", "Yard"): {"MOST_STATIONS": 12, "MOST_EXITS": 3}, ("wishes", "Wish"): {"MOST_PLACES": 4}}


def module(name):
    return importlib.import_module(f"flowyard.{name}")


def defined(name):
    """The names that the file itself defines."""
    tree = ast.parse((FOLDER / f"{name}.py").read_text())
    return [node.name for node in tree.body if isinstance(node, (ast.FunctionDef, ast.ClassDef))]


class Interface(unittest.TestCase):
    def test_functions(self):
        for name, rows in FUNCTIONS.items():
            for row in rows:
                word = row[:row.index("(")]
                self.assertIn(word, defined(name))
                self.assertEqual(word + str(inspect.signature(getattr(module(name), word))), row)

    def test_classes(self):
        for (name, word), rows in CLASSES.items():
            self.assertIn(word, defined(name))
            body = vars(getattr(module(name), word))
            for row in rows:
                method = row[:row.index("(")]
                self.assertEqual(method + str(inspect.signature(body[method])), row)

    def test_the_sign_of_a_wish_for_in(self):
        self.assertIn("__contains__", vars(module("wishes").Wish))

    def test_properties_and_class_values(self):
        for (name, word), rows in PROPERTIES.items():
            for row in rows:
                self.assertIsInstance(vars(getattr(module(name), word))[row], property)
        for (name, word), rows in CLASS_VALUES.items():
            for row, value in rows.items():
                self.assertEqual(vars(getattr(module(name), word))[row], value)


if __name__ == "__main__":
    unittest.main()
