"""The names, parameters and defaults that the document lists, in the files under which it lists them."""

import ast
import importlib
import inspect
import unittest
from pathlib import Path

FOLDER = Path(__file__).resolve().parent.parent / "flowyard"
FUNCTIONS = {
    "basics": ["is_integer(value)", "is_count(value)", "is_sign(value)", "is_text(value)"],
    "yards": ["joined(one, outlet, other)", "renumbered(yard, order)"],
    "runs": ["begin_of(yard, stream)", "can_be_done(yard, state, sizes=None)", "done(yard, state, station, sizes=None)",
             "is_run(yard, stream, value, sizes=None)", "state_behind(yard, stream, run, sizes=None)",
             "is_full(yard, stream, run, sizes=None)", "full_run(yard, stream, sizes=None)",
             "end(yard, stream, sizes=None)", "flows(yard, stream)"],
    "needs": ["beats(yard, stream, sizes=None)", "needs(yard, stream, beat, sizes=None)",
              "must_be_ahead(yard, stream, first, second, sizes=None)", "chain(yard, stream, first, second, sizes=None)",
              "is_chain(yard, stream, first, second, value, sizes=None)",
              "run_against(yard, stream, first, second, sizes=None)",
              "is_run_against(yard, stream, first, second, value, sizes=None)",
              "exchanges(yard, stream, one, other, sizes=None)", "are_exchanges(yard, stream, one, other, value, sizes=None)",
              "how_many_full(yard, stream, sizes=None)"],
    "terms": ["is_term(value)", "flow_of(term, stream)", "put_in(term, other)", "plain(term)", "slope(term)", "is_even(term)"],
    "compiling": ["compiled(term)", "station_for(term)"],
    "fusing": ["can_fuse(yard, pipe)", "joint_standings(yard, pipe)", "fused_at(yard, pipe)", "fused(yard)"],
    "rests": ["rests(yard)", "rest_behind(yard, stream)", "step(yard, rest, sign)", "stream_to(yard, rest)",
              "is_held(yard, number)", "overfilling(yard, number)", "is_held_paper(yard, number, value)",
              "is_overfilling(yard, number, value)"],
    "same": ["are_same(one, other)", "parting(one, other)", "same_paper(one, other)", "is_same_paper(one, other, value)",
             "is_parting(one, other, value)", "least_table(yard)", "classes(yard)", "is_table_of(yard, value)"],
    "forever": ["endless_flow(yard, outlet, begin, lap)", "settled_flow(yard, outlet, rest)",
                "are_same_for_ever(one, one_exit, other, other_exit)", "ahead_list(one, one_exit, other, other_exit)",
                "is_ahead_list(one, one_exit, other, other_exit, value)",
                "endless_parting(one, one_exit, other, other_exit)",
                "is_endless_parting(one, one_exit, other, other_exit, value)"],
    "room": ["lacking(yard, state, sizes)", "are_enough_for(yard, sizes, stream)", "are_enough(yard, sizes)",
             "room_list(yard, sizes)", "still_stream(yard, sizes)", "standstill(yard, sizes)",
             "is_room_list(yard, sizes, value)", "is_standstill(yard, sizes, value)", "least_sizes(yard)",
             "spare(yard, sizes)", "fullest(yard, sizes)"],
    "rings": ["waits_for(yard, sizes, stream, beat)", "stays_for(yard, sizes, stream, beat)",
              "reason(yard, sizes, stream)", "is_reason(yard, sizes, stream, value)", "least_for(yard, stream)"],
    "clock": ["times(yard, stream, apart, sizes=None)", "over_at(yard, stream, apart, sizes=None)",
              "given_at(yard, stream, apart, outlet, sizes=None)", "is_timing(yard, stream, apart, value, sizes=None)",
              "lateness(yard, stream, apart, sizes=None)", "links(yard, stream, sign, sizes=None)"],
    "pace": ["delay(yard, apart, sizes=None)", "heights(yard, apart, sizes=None)",
             "are_heights(yard, apart, bound, value, sizes=None)", "late_stream(yard, apart, sizes=None)",
             "is_later(yard, apart, bound, value, sizes=None)", "pace(yard, sizes=None)", "slowest(yard, sizes=None)",
             "ring_mean(yard, value, sizes=None)", "scaled_heights(yard, sizes=None)",
             "are_scaled(yard, value, sizes=None)", "keeping_sizes(yard)"],
    "wishes": ["watching_station(wish, lot)"],
    "watch": ["is_live(yard, outlet)", "ranks(yard, outlet)", "are_ranks(yard, outlet, value)", "silent_stream(yard, outlet)",
              "is_silent_stream(yard, outlet, value)", "nodes(yard, outlet, wish)", "passed_lots(yard, outlet, wish)",
              "witness(yard, outlet, wish, lot)", "bars(yard, outlet, wish, lot)", "is_witness(yard, outlet, wish, lot, value)",
              "are_bars(yard, outlet, wish, lot, value)", "is_kept(yard, outlet, wish)", "kept_paper(yard, outlet, wish)",
              "breaker(yard, outlet, wish)", "is_kept_paper(yard, outlet, wish, value)", "is_breaker(yard, outlet, wish, value)",
              "gap(yard, outlet, wish, lot)", "gap_heights(yard, outlet, wish, lot)",
              "are_gap_heights(yard, outlet, wish, lot, number, value)"],
    "taps": ["is_part(text, whole)", "heard_of(yard, outlet, stream, text)", "can_be_heard(yard, outlet, text)",
             "first_stream(yard, outlet, text)", "view(yard, outlet, text)", "rests_behind(yard, outlet, text)",
             "picture(yard, outlet)", "unheard(yard, outlet)", "heard_apart(one, outlet, other, second)",
             "twins(one, outlet, other, second)", "are_twins(one, outlet, other, second, value)"],
    "alarms": ["is_sure(yard, outlet, rests, text)", "unsure_stream(yard, outlet, rests, text)",
               "is_unsure(yard, outlet, rests, text, value)", "sure_paper(yard, outlet, rests, text)",
               "is_sure_paper(yard, outlet, rests, text, value)", "alarms(yard, outlet, rests)",
               "alarm_paper(yard, outlet, rests, text)", "is_alarm_paper(yard, outlet, rests, text, value)",
               "rings_at(yard, outlet, rests, stream)"],
    "swaps": ["exchanged(yard, station, new, image=0)", "swapped_end(yard, station, new, stream, number, image)",
              "moments(yard, station, standing)", "images(yard, station, new)", "is_kept(yard, station, new, standing, image)",
              "kept_paper(yard, station, new, standing, image)", "is_kept_paper(yard, station, new, standing, image, value)",
              "least_break(yard, station, new, standing, image)", "is_break(yard, station, new, standing, image, value)"],
    "patches": ["patched(yard, patch)", "word(yard, patch, part)", "shown_by(yard, patch, part)", "least_changing(yard, patch)",
                "greatest_keeping(yard, patch)", "overfilling(yard, patch)", "merged(yard, one, other)", "kept_exits(yard, patch)",
                "lost_exits(yard, one, other)"],
    "texts": ["written(entry)", "read_station(lines)", "read_yard(lines)", "read_table(lines)", "read_term(lines)"],
    "claims": ["is_claim(value)", "is_true(claim)", "contrary(claim)", "paper_of(claim)", "is_paper(claim, value)"],
    "desk": ["tried(desk, action)", "told_again(desk, yard)"],
}
CLASSES = {
    ("yards", "Station"): ["__init__(self, ins, outs, standings)", "standings(self)", "reads(self, standing)",
                           "row(self, standing, signs)", "__len__(self)", "__eq__(self, other)", "__repr__(self)"],
    ("yards", "Yard"): ["__init__(self, stations, pipes, begin=None)", "begun(self, begin)", "__len__(self)",
                        "__eq__(self, other)", "__repr__(self)"],
    ("wishes", "Wish"): ["__init__(self, goals, good)", "goals(self)", "good(self)", "lots(self)", "goes(self, place, text)",
                         "passed(self, place, text)", "last_lot(self, begin, lap)", "__len__(self)", "__invert__(self)",
                         "__eq__(self, other)", "__repr__(self)"],
    ("desk", "Desk"): ["__init__(self, yard, sizes=None, apart=0)", "as_yard(self)", "come(self, text)", "beat(self, station)",
                       "finish(self)", "swap(self, station, name, image)", "change(self, station, standing, signs, row)",
                       "undo(self)", "times(self)", "log(self)", "do(self, command)", "do_all(self, *commands)",
                       "__call__(self, command)", "__len__(self)"],
    ("desk", "Trial"): ["__init__(self, desk)"],
}
PROPERTIES = {("yards", "Station"): ["ins", "outs"], ("yards", "Yard"): ["stations", "pipes", "begin", "exits"],
              ("desk", "Desk"): ["sizes", "apart", "stations", "state", "came", "run"]}
CLASS_VALUES = {("yards", "Yard"): {"MOST_STATIONS": 12, "MOST_EXITS": 3}, ("wishes", "Wish"): {"MOST_PLACES": 4}}


def module(name):
    return importlib.import_module(f"flowyard.{name}")


def defined(name):
    """The names that the file itself defines."""
    tree = ast.parse((FOLDER / f"{name}.py").read_text())
    return [node.name for node in tree.body if isinstance(node, (ast.FunctionDef, ast.ClassDef))]


class Interface(unittest.TestCase):
    def test_functions(self):
        for name, rows in FUNCTIONS.items():
            for row in rows:
                word = row[:row.index("(")]
                self.assertIn(word, defined(name))
                self.assertEqual(word + str(inspect.signature(getattr(module(name), word))), row)

    def test_classes(self):
        for (name, word), rows in CLASSES.items():
            self.assertIn(word, defined(name))
            body = vars(getattr(module(name), word))
            for row in rows:
                method = row[:row.index("(")]
                self.assertEqual(method + str(inspect.signature(body[method])), row)

    def test_signs_of_operators(self):
        self.assertIn("__contains__", vars(module("wishes").Wish))
        for name in ("__contains__", "__getitem__", "__setitem__", "__iadd__"):
            self.assertIn(name, vars(module("desk").Desk))
        for name in ("__enter__", "__exit__"):
            self.assertIn(name, vars(module("desk").Trial))

    def test_a_list_of_words(self):
        self.assertIsInstance(module("claims").WORDS, list)
        self.assertEqual({type(row) for row in module("claims").WORDS}, {tuple})

    def test_properties_and_class_values(self):
        for (name, word), rows in PROPERTIES.items():
            for row in rows:
                self.assertIsInstance(vars(getattr(module(name), word))[row], property)
        for (name, word), rows in CLASS_VALUES.items():
            for row, value in rows.items():
                self.assertEqual(vars(getattr(module(name), word))[row], value)


if __name__ == "__main__":
    unittest.main()
