"""[23] and the guarantee MEANT: the compiled yard of a term, station by station and pipe by pipe."""

import unittest
from itertools import product

from flowyard import errors
from flowyard.compiling import compiled, station_for
from flowyard.runs import end, flows
from flowyard.terms import flow_of
from flowyard.yards import Station, Yard
from helper import COPY, HALF, PASS, TURN, TWICE, UNLIKE, Cases, Dice
from some_terms import FIVE_INS, NINE, UNLIKE_TERM, chain_of, no_terms, slow_flow, some_term

CHANGE = Station(1, 1, [
    ("1", [(("0",), 0, 1), (("1",), 1, 1)]),
    ("1", [(("1",), 0, 1), (("0",), 1, 1)]),
])
COUNT = Station(1, 1, [
    ("1", [(("0",), 0, 1), (("1",), 1, 1)]),
    ("1", [(("1",), 1, 1), (("0",), 0, 1)]),
])
LATE_0 = Station(1, 1, [
    ("1", [(("0",), 0, 1), (("0",), 1, 1)]),
    ("1", [(("1",), 0, 1), (("1",), 1, 1)]),
])
LATE_1 = Station(1, 1, [
    ("1", [(("1",), 1, 1), (("1",), 0, 1)]),
    ("1", [(("0",), 1, 1), (("0",), 0, 1)]),
])
KEEP = Station(2, 1, [("12", [(("",), 0, 1), (("0",), 0, 1), (("",), 0, 1), (("1",), 0, 1)])])
OWN = {"not": TURN, "twice": TWICE, "half": HALF, "change": CHANGE, "count": COUNT}


def by(table):
    return Station(2, 1, [("12", [((sign,), 0, 1) for sign in table])])


def row_of(*stations):
    return Yard(list(stations), [(number, 0, number + 1, 0) for number in range(len(stations) - 1)])


def streams_up_to(most):
    return ["".join(signs) for length in range(most + 1) for signs in product("01", repeat=length)]


class Stations(Cases):
    def test_of_each_word(self):
        for word, station in OWN.items():
            for part in ["in", ("not", "in"), ("keep", "in", "in"), ("then", "in", "in")]:
                self.same(station_for((word, part)), station)
        self.same(station_for(("late", "0", "in")), LATE_0)
        self.same(station_for(("late", "1", ("half", "in"))), LATE_1)
        self.same(station_for(("keep", "in", ("twice", "in"))), KEEP)
        self.same(station_for(UNLIKE_TERM), UNLIKE)
        for signs in product("01", repeat=4):
            self.same(station_for(("by", "".join(signs), "in", "in")), by(signs))

    def test_wrong_terms(self):
        for value in no_terms() + ["in", ("then", "in", "in"), ("then", ("not", "in"), ("half", "in"))]:
            self.fails(errors.InvalidTerm, {"value": value}, station_for, value)


class Yards(Cases):
    def test_no_station_at_all(self):
        for term in ["in", ("then", "in", "in"), ("then", ("then", "in", "in"), ("then", "in", "in"))]:
            self.same(compiled(term), Yard([PASS], []))

    def test_one_station(self):
        for word, station in OWN.items():
            self.same(compiled((word, "in")), Yard([station], []))
            self.same(compiled(("then", "in", (word, "in"))), Yard([station], []))
            self.same(compiled(("then", (word, "in"), "in")), Yard([station], []))
        self.same(compiled(("late", "0", "in")), Yard([LATE_0], []))
        self.same(compiled(("late", "1", "in")), Yard([LATE_1], []))

    def test_rows_of_stations(self):
        self.same(compiled(("not", ("half", ("count", "in")))), row_of(COUNT, HALF, TURN))
        self.same(compiled(("then", ("not", ("half", "in")), ("count", "in"))), row_of(HALF, TURN, COUNT))
        self.same(compiled(("change", ("then", ("not", "in"), ("twice", "in")))), row_of(TURN, TWICE, CHANGE))
        self.same(compiled(chain_of([("late", "0")] * 4 + [("late", "1")] * 4)), row_of(*[LATE_1] * 4 + [LATE_0] * 4))

    def test_two_parts(self):
        pipes = [(0, 0, 1, 0), (0, 1, 1, 1)]
        self.same(compiled(("by", "0001", "in", "in")), Yard([COPY, by("0001")], pipes))
        self.same(compiled(("keep", "in", "in")), Yard([COPY, KEEP], pipes))
        self.same(compiled(UNLIKE_TERM), Yard([COPY, HALF, UNLIKE], [(0, 0, 1, 0), (0, 1, 2, 1), (1, 0, 2, 0)]))
        self.same(compiled(("keep", "in", ("half", "in"))),
                  Yard([COPY, HALF, KEEP], [(0, 0, 2, 0), (0, 1, 1, 0), (1, 0, 2, 1)]))
        self.same(compiled(("keep", ("not", "in"), ("half", "in"))),
                  Yard([COPY, TURN, HALF, KEEP], [(0, 0, 1, 0), (0, 1, 2, 0), (1, 0, 3, 0), (2, 0, 3, 1)]))
        self.same(compiled(("not", ("keep", "in", "in"))), Yard([COPY, KEEP, TURN], pipes + [(1, 0, 2, 0)]))

    def test_copies_come_first(self):
        self.same(compiled(("keep", ("by", "0110", "in", "in"), "in")),
                  Yard([COPY, COPY, UNLIKE, KEEP],
                       [(0, 0, 2, 0), (0, 1, 1, 0), (1, 0, 2, 1), (1, 1, 3, 1), (2, 0, 3, 0)]))
        self.same(compiled(("keep", "in", ("by", "0110", "in", "in"))),
                  Yard([COPY, COPY, UNLIKE, KEEP],
                       [(0, 0, 3, 0), (0, 1, 1, 0), (1, 0, 2, 0), (1, 1, 2, 1), (2, 0, 3, 1)]))
        self.same(compiled(FIVE_INS),
                  Yard([COPY] * 4 + [by("0001"), KEEP, by("0111"), UNLIKE],
                       [(0, 1, 1, 0), (1, 1, 2, 0), (2, 1, 3, 0), (0, 0, 4, 0), (1, 0, 4, 1), (3, 0, 5, 0), (3, 1, 5, 1),
                        (2, 0, 6, 0), (5, 0, 6, 1), (4, 0, 7, 0), (6, 0, 7, 1)]))

    def test_then_with_several_in(self):
        pipes = [(0, 0, 1, 0), (1, 0, 2, 0), (1, 1, 2, 1)]
        self.same(compiled(("then", ("not", "in"), ("keep", "in", "in"))), Yard([TURN, COPY, KEEP], pipes))
        self.same(compiled(("then", "in", ("keep", "in", "in"))), compiled(("keep", "in", "in")))
        self.same(compiled(("then", ("keep", "in", "in"), ("not", "in"))),
                  Yard([COPY, KEEP, TURN], [(0, 0, 1, 0), (0, 1, 1, 1), (1, 0, 2, 0)]))
        self.same(compiled(("then", ("keep", "in", "in"), ("by", "0110", "in", "in"))),
                  Yard([COPY, KEEP, COPY, UNLIKE],
                       [(0, 0, 1, 0), (0, 1, 1, 1), (1, 0, 2, 0), (2, 0, 3, 0), (2, 1, 3, 1)]))

    def test_then_below_another_node(self):
        self.same(compiled(("keep", ("then", "in", ("by", "0110", "in", "in")), "in")),
                  Yard([COPY, COPY, UNLIKE, KEEP],
                       [(0, 0, 1, 0), (0, 1, 3, 1), (1, 0, 2, 0), (1, 1, 2, 1), (2, 0, 3, 0)]))
        self.same(compiled(("keep", "in", ("then", ("not", "in"), ("by", "0110", "in", ("half", "in"))))),
                  Yard([COPY, TURN, COPY, HALF, UNLIKE, KEEP],
                       [(0, 0, 5, 0), (0, 1, 1, 0), (1, 0, 2, 0), (2, 0, 4, 0), (2, 1, 3, 0), (3, 0, 4, 1), (4, 0, 5, 1)]))
        self.same(compiled(("keep", ("then", "in", "in"), ("then", "in", ("half", "in")))),
                  compiled(("keep", "in", ("half", "in"))))

    def test_then_in_then(self):
        one = ("then", ("then", ("not", "in"), ("half", "in")), ("keep", "in", "in"))
        other = ("then", ("not", "in"), ("then", ("half", "in"), ("keep", "in", "in")))
        wanted = Yard([TURN, HALF, COPY, KEEP], [(0, 0, 1, 0), (1, 0, 2, 0), (2, 0, 3, 0), (2, 1, 3, 1)])
        self.same(compiled(one), wanted)
        self.same(compiled(other), wanted)

    def test_wrong_terms(self):
        for value in no_terms():
            self.fails(errors.InvalidTerm, {"value": value}, compiled, value)

    def test_by_name(self):
        self.same(compiled(term=("not", "in")), Yard([TURN], []))
        self.same(station_for(term=("not", "in")), TURN)


class Meant(Cases):
    def judge(self, term, streams):
        yard = compiled(term)
        self.assertEqual(len(yard.exits), 1)
        self.same(yard.begin, ((0,) * len(yard), ("",) * len(yard.pipes)))
        for stream in streams:
            self.same(flows(yard, stream), [slow_flow(term, stream)])
            self.same(flow_of(term, stream), flows(yard, stream)[0])

    def test_the_documents_term(self):
        yard = compiled(UNLIKE_TERM)
        self.same([len(yard), yard.pipes, flows(yard, "0110")], [3, [(0, 0, 1, 0), (0, 1, 2, 1), (1, 0, 2, 0)], ["11"]])
        self.same(end(yard, "0110"), ((0, 0, 0), ("", "10", ""), "", ("11",)))

    def test_all_words_for_all_short_streams(self):
        for term in NINE + [UNLIKE_TERM, FIVE_INS]:
            self.judge(term, streams_up_to(7))

    def test_two_words_in_each_way(self):
        for outer in NINE[1:]:
            for inner in NINE[1:]:
                term = outer[:-1] + (inner,)
                self.judge(term, streams_up_to(4))
                self.judge(outer[:-2] + (inner, "in") if len(outer) > 2 and outer[0] != "late" else term, ["0110100"])

    def test_many_terms_for_all_short_streams(self):
        dice = Dice(41)
        for _ in range(150):
            self.judge(some_term(dice, 9), streams_up_to(4))

    def test_many_terms_for_a_longer_stream(self):
        dice = Dice(42)
        for _ in range(200):
            self.judge(some_term(dice, 9), [dice.text(20)])


if __name__ == "__main__":
    unittest.main()
