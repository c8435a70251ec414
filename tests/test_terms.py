"""[21], [22] and [25]: terms, their flows, terms put into terms, slopes."""

import unittest
from fractions import Fraction

from flowyard import errors
from flowyard.runs import end
from flowyard.compiling import compiled
from flowyard.terms import flow_of, is_even, is_term, plain, put_in, slope
from helper import Cases, Dice, no_counts, no_texts, odd_values
from some_terms import (EIGHT_NOTS, FIVE_INS, NINE, ONES, UNLIKE_TERM, chain_of, no_terms, nodes_in, places_of,
                        slow_flow, some_term)


class Terms(Cases):
    def test_the_nine_words(self):
        for term in NINE + [UNLIKE_TERM, ("by", "1111", ("late", "0", "in"), ("then", "in", "in"))]:
            self.assertIs(is_term(term), True)

    def test_any_value_is_asked(self):
        for value in no_terms():
            with self.subTest(value=repr(value)):
                self.assertIs(is_term(value), False)
                self.assertIs(is_term(("not", value)), False)
                self.assertIs(is_term(("then", "in", value)), False)
                self.assertIs(is_term(("keep", value, "in")), False)
                self.assertIs(is_term(("by", "0110", "in", value)), False)
                self.assertIs(is_term(("late", "0", value)), False)

    def test_nine_nodes_and_ten(self):
        self.assertIs(is_term(EIGHT_NOTS), True)
        self.assertIs(is_term(("not", EIGHT_NOTS)), False)
        self.assertIs(is_term(FIVE_INS), True)
        self.assertIs(is_term(("not", FIVE_INS)), False)
        self.assertIs(is_term(("then", chain_of(["not"] * 3), chain_of(["half"] * 3))), True)
        self.assertIs(is_term(("then", chain_of(["not"] * 4), chain_of(["half"] * 3))), False)
        self.assertIs(is_term(("then", chain_of(["not"] * 3), chain_of(["half"] * 4))), False)
        self.assertIs(is_term(chain_of(["not"] * 300)), False)

    def test_many_terms_and_ones_that_are_changed(self):
        dice = Dice(31)
        for _ in range(300):
            term = some_term(dice, 9)
            self.assertIs(is_term(term), True)
            for node in places_of(term):
                self.assertIs(is_term(node), True)
            if term != "in":
                self.assertIs(is_term(list(term)), False)
                self.assertIs(is_term(term + ("in",)), False)
                self.assertIs(is_term(term[:-1]), False)


class Flows(Cases):
    def test_the_documents_terms(self):
        self.same([flow_of(UNLIKE_TERM, "0110"), flow_of(("late", "1", ("count", "in")), "0110"),
                   flow_of(("then", ("twice", "in"), ("change", "in")), "10")], ["11", "1010", "1010"])
        self.same(flow_of(("keep", "in", ("not", "in")), "0110"), "00")

    def test_each_word(self):
        for term, flow in [
            ("in", "0110100"), (("not", "in"), "1001011"), (("late", "0", "in"), "0011010"),
            (("late", "1", "in"), "1011010"), (("twice", "in"), "00111100110000"), (("half", "in"), "100"),
            (("change", "in"), "0101110"), (("count", "in"), "0100111"),
            (("by", "0110", "in", ("late", "0", "in")), "0101110"), (("by", "0010", "in", ("late", "0", "in")), "0100100"),
            (("by", "0100", "in", ("late", "0", "in")), "0001010"), (("keep", "in", "in"), "111"),
            (("keep", ("late", "0", "in"), "in"), "010"), (("then", ("half", "in"), ("not", "in")), "011"),
            (("then", ("half", "in"), ("half", "in")), "0"),
        ]:
            with self.subTest(term=term):
                self.same(flow_of(term, "0110100"), flow)

    def test_empty_streams(self):
        for term in NINE + [UNLIKE_TERM]:
            self.same(flow_of(term, ""), "")

    def test_short_streams(self):
        self.same([flow_of(("late", "1", "in"), text) for text in ("0", "1", "01")], ["1", "1", "10"])
        self.same([flow_of(("half", "in"), text) for text in ("0", "10", "101", "1011")], ["", "0", "0", "01"])
        self.same([flow_of(("change", "in"), text) for text in ("0", "1", "11")], ["0", "1", "10"])
        self.same([flow_of(("count", "in"), text) for text in ("0", "1", "11", "111")], ["0", "1", "10", "101"])

    def test_tables(self):
        for table in ["0001", "0010", "0100", "1000", "0111"]:
            term = ("by", table, ("then", "in", ("not", "in")), ("half", ("twice", ("twice", "in"))))
            self.same(flow_of(term, "01"), slow_flow(term, "01"))
            self.same(flow_of(("by", table, ("half", ("twice", "in")), ("then", ("twice", "in"), "in")), "01"),
                      table[0] + table[2])
            self.same(flow_of(("by", table, ("twice", "in"), ("late", "1", "in")), "01"), table[1] + table[0])

    def test_parts_of_unlike_lengths(self):
        for term, flow in [(("by", "0011", ("twice", "in"), "in"), "0011"), (("by", "0101", ("twice", "in"), "in"), "0101"),
                           (("by", "0011", "in", ("half", "in")), "01"), (("keep", ("twice", "in"), "in"), "01"),
                           (("keep", "in", ("twice", "in")), "01"), (("keep", "in", ("half", "in")), "01")]:
            self.same(flow_of(term, "0101"), flow)

    def test_many_terms(self):
        dice = Dice(32)
        for _ in range(1500):
            term = some_term(dice, 9)
            stream = dice.text(12)
            self.same(flow_of(term, stream), slow_flow(term, stream))

    def test_long_streams(self):
        stream = "0110100110" * 100
        for term in NINE:
            self.same(flow_of(term, stream), slow_flow(term, stream))


class Signs(Cases):
    many = {"what": "signs", "limit": 8000}
    eightfold = chain_of(["twice"] * 3)

    def test_8000_signs_and_more(self):
        self.assertEqual(len(flow_of(self.eightfold, "01" * 500)), 8000)
        self.assertEqual(len(flow_of(("twice", self.eightfold), "01" * 250)), 8000)
        self.fails(errors.TooMany, self.many, flow_of, ("twice", self.eightfold), "01" * 250 + "0")
        self.fails(errors.TooMany, self.many, flow_of, chain_of(["twice"] * 8), "0" * 32)
        self.assertEqual(len(flow_of(chain_of(["twice"] * 8), "0" * 31)), 7936)

    def test_at_an_inner_node_alone(self):
        more = ("twice", self.eightfold)
        for term in [("half", more), ("keep", ("not", "in"), more), ("by", "0110", more, "in"), ("then", more, "in"),
                     ("then", more, ("half", "in")), ("late", "0", ("half", more)), ("then", "in", ("half", more)),
                     ("by", "0110", "in", ("half", more)), ("then", ("half", more), "in")]:
            self.fails(errors.TooMany, self.many, flow_of, term, "01" * 500)
            self.assertEqual(flow_of(term, "01" * 250), slow_flow(term, "01" * 250))

    def test_of_the_stream_that_comes_to_the_node(self):
        term = ("then", ("half", "in"), ("half", ("twice", self.eightfold)))
        self.assertEqual(len(flow_of(term, "01" * 500)), 4000)
        self.fails(errors.TooMany, self.many, flow_of, ("then", ("twice", "in"), ("half", self.eightfold)), "0" * 501)
        self.assertEqual(len(flow_of(("then", ("twice", "in"), ("half", self.eightfold)), "0" * 500)), 4000)
        inner = ("then", ("twice", ("twice", "in")), ("half", ("twice", ("twice", "in"))))
        self.assertEqual(len(flow_of(inner, "0" * 500)), 4000)
        self.fails(errors.TooMany, self.many, flow_of, inner, "0" * 501)


class PutIn(Cases):
    def test_the_documents_terms(self):
        self.same(put_in(("keep", "in", ("then", "in", ("half", "in"))), ("not", "in")),
                  ("keep", ("not", "in"), ("then", ("not", "in"), ("half", "in"))))

    def test_each_word(self):
        other = ("count", "in")
        for term, wanted in [
            ("in", other), (("not", "in"), ("not", other)), (("late", "1", "in"), ("late", "1", other)),
            (("twice", "in"), ("twice", other)), (("half", "in"), ("half", other)), (("change", "in"), ("change", other)),
            (("count", "in"), ("count", other)), (("by", "0110", "in", "in"), ("by", "0110", other, other)),
            (("keep", "in", "in"), ("keep", other, other)), (("then", "in", "in"), ("then", other, "in")),
            (("then", ("then", "in", "in"), ("not", "in")), ("then", ("then", other, "in"), ("not", "in"))),
            (("then", "in", ("then", "in", "in")), ("then", other, ("then", "in", "in"))),
        ]:
            self.same(put_in(term, other), wanted)
            self.same(put_in(term, "in"), term)

    def test_its_flow_is_that_of_then(self):
        dice = Dice(33)
        for _ in range(400):
            term, other = some_term(dice, 5), some_term(dice, 3)
            if slow_nodes_of_put(term, other) <= 9:
                found = put_in(term, other)
                self.assertEqual(nodes_in(found), slow_nodes_of_put(term, other))
                stream = dice.text(9)
                self.same(flow_of(found, stream), slow_flow(term, slow_flow(other, stream)))
            else:
                self.fails(errors.TooMany, {"what": "nodes", "limit": 9}, put_in, term, other)

    def test_nine_nodes_and_ten(self):
        many = {"what": "nodes", "limit": 9}
        five, six = chain_of(["not"] * 4), chain_of(["not"] * 5)
        self.assertEqual(nodes_in(put_in(five, five)), 9)
        self.fails(errors.TooMany, many, put_in, five, six)
        self.fails(errors.TooMany, many, put_in, six, five)
        four = chain_of(["not"] * 3)
        self.assertEqual(nodes_in(put_in(("keep", "in", "in"), four)), 9)
        self.fails(errors.TooMany, many, put_in, ("keep", "in", "in"), five)
        self.fails(errors.TooMany, many, put_in, FIVE_INS, FIVE_INS)
        self.same(put_in("in", EIGHT_NOTS), EIGHT_NOTS)
        self.same(put_in(("then", "in", chain_of(["half"] * 3)), four), ("then", four, chain_of(["half"] * 3)))
        self.fails(errors.TooMany, many, put_in, ("then", "in", chain_of(["half"] * 3)), five)


def slow_nodes_of_put(term, other):
    """Each outer "in" goes, and all nodes of the other one come."""
    return nodes_in(term) + outer(term) * (nodes_in(other) - 1)


def outer(term):
    if term == "in":
        return 1
    parts = [part for part in term if isinstance(part, tuple) or part == "in"]
    return outer(parts[0]) if term[0] == "then" else sum(outer(part) for part in parts)


class Plain(Cases):
    def test_the_documents_terms(self):
        self.same(plain(("then", ("twice", "in"), UNLIKE_TERM)), ("by", "0110", ("half", ("twice", "in")), ("twice", "in")))

    def test_terms(self):
        for term in NINE[:-1] + [UNLIKE_TERM, FIVE_INS, EIGHT_NOTS]:
            self.same(plain(term), term)
        for term, wanted in [
            (("then", "in", "in"), "in"), (("then", "in", ("then", "in", "in")), "in"),
            (("then", ("not", "in"), ("late", "0", "in")), ("late", "0", ("not", "in"))),
            (("then", ("then", ("not", "in"), ("half", "in")), ("count", "in")), ("count", ("half", ("not", "in")))),
            (("then", ("not", "in"), ("then", ("half", "in"), ("count", "in"))), ("count", ("half", ("not", "in")))),
            (("keep", ("then", "in", ("not", "in")), ("then", ("half", "in"), "in")), ("keep", ("not", "in"), ("half", "in"))),
            (("not", ("then", ("by", "0001", "in", "in"), "in")), ("not", ("by", "0001", "in", "in"))),
        ]:
            self.same(plain(term), wanted)

    def test_its_flow_stays(self):
        dice = Dice(34)
        kept = 0
        for _ in range(900):
            term = some_term(dice, 9)
            try:
                found = plain(term)
            except errors.TooMany:
                self.assertGreater(nodes_without_then(term), 9)
                continue
            self.assertIs(is_term(found), True)
            self.assertNotIn("then", repr(found))
            self.assertEqual(nodes_in(found), nodes_without_then(term))
            stream = dice.text(9)
            self.same(flow_of(found, stream), slow_flow(term, stream))
            kept += found != term
        self.assertGreater(kept, 100)

    def test_more_than_nine_nodes(self):
        many = {"what": "nodes", "limit": 9}
        four = ("not", ("not", ("not", "in")))
        self.assertEqual(nodes_in(plain(("then", four[1], ("keep", "in", "in")))), 7)
        self.assertEqual(nodes_in(plain(("then", four, ("keep", "in", "in")))), 9)
        self.fails(errors.TooMany, many, plain, ("then", ("not", four), ("keep", "in", "in")))
        self.fails(errors.TooMany, many, plain, ("not", ("then", four, ("keep", "in", "in"))))


def nodes_without_then(term):
    if term == "in":
        return 1
    parts = [part for part in term if isinstance(part, tuple) or part == "in"]
    if term[0] == "then":
        return nodes_without_then(parts[1]) + plain_outer(parts[1]) * (nodes_without_then(parts[0]) - 1)
    return 1 + sum(nodes_without_then(part) for part in parts)


def plain_outer(term):
    """How many "in" the term has when no "then" is left in it."""
    if term == "in":
        return 1
    many = [plain_outer(part) for part in term if isinstance(part, tuple) or part == "in"]
    return many[0] * many[1] if term[0] == "then" else sum(many)


class Slopes(Cases):
    def test_each_word(self):
        for term, wanted in [
            ("in", (1, 1)), (("not", "in"), (1, 1)), (("late", "0", "in"), (1, 1)), (("twice", "in"), (2, 1)),
            (("half", "in"), (1, 2)), (("change", "in"), (1, 1)), (("count", "in"), (1, 1)),
            (("by", "0110", "in", "in"), (1, 1)), (("then", "in", "in"), (1, 1)), (UNLIKE_TERM, (1, 2)),
            (chain_of(["twice"] * 8), (256, 1)), (chain_of(["half"] * 8), (1, 256)), (("half", ("twice", "in")), (1, 1)),
            (("twice", ("half", "in")), (1, 1)), (("twice", ("twice", ("half", "in"))), (2, 1)),
            (("by", "0110", ("twice", "in"), "in"), (1, 1)), (("by", "0110", "in", ("twice", "in")), (1, 1)),
            (("by", "0110", ("half", "in"), ("half", ("half", "in"))), (1, 4)),
            (("by", "0110", ("twice", "in"), ("twice", ("twice", "in"))), (2, 1)),
            (("by", "0110", ("twice", "in"), ("half", "in")), (1, 2)),
            (("by", "0110", ("half", "in"), ("twice", "in")), (1, 2)),
            (("then", ("twice", "in"), ("twice", "in")), (4, 1)), (("then", ("half", "in"), ("half", "in")), (1, 4)),
            (("then", ("half", "in"), ("twice", "in")), (1, 1)), (("late", "1", ("not", ("half", "in"))), (1, 2)),
            (("change", ("count", ("twice", "in"))), (2, 1)),
        ]:
            with self.subTest(term=term):
                self.same(slope(term), wanted)

    def test_none_with_keep(self):
        for term in [("keep", "in", "in"), ("not", ("keep", "in", "in")), ("by", "0110", "in", ("keep", "in", "in")),
                     ("then", ("keep", "in", "in"), "in"), ("then", "in", ("half", ("keep", "in", "in"))), FIVE_INS]:
            self.assertIs(slope(term), None)
            self.assertIs(is_even(term), None)

    def test_lengths_go_as_the_slope_tells(self):
        dice = Dice(35)
        for _ in range(300):
            term = some_term(dice, 9, 8)
            many, of = slope(term)
            at = [len(slow_flow(term, "0" * length)) for length in (512, 1024)]
            self.assertEqual(Fraction(at[1] - at[0], 512), Fraction(many, of))
            self.assertEqual(Fraction(many, of).as_integer_ratio(), (many, of))

    def test_even(self):
        for term, wanted in [
            ("in", True), (UNLIKE_TERM, False), (("by", "0110", "in", "in"), True), (EIGHT_NOTS, True),
            (("half", "in"), True), (("by", "0110", ("half", ("twice", "in")), "in"), True),
            (("by", "0110", ("half", "in"), ("late", "0", ("half", "in"))), True),
            (("by", "0110", "in", ("twice", "in")), False), (("not", UNLIKE_TERM), False),
            (("by", "0110", UNLIKE_TERM, ("half", "in")), False), (("by", "0110", ("half", "in"), UNLIKE_TERM), False),
            (("then", UNLIKE_TERM, "in"), False), (("then", "in", UNLIKE_TERM), False),
            (("by", "0110", ("then", ("half", "in"), ("twice", "in")), "in"), True),
            (("then", ("half", "in"), ("by", "0110", "in", "in")), True),
            (("by", "0110", ("by", "0001", "in", "in"), ("not", "in")), True),
            (("by", "0110", ("by", "0001", "in", "in"), ("half", "in")), False),
            (("by", "0110", ("by", "0001", ("half", "in"), ("half", "in")), ("half", "in")), True),
            (("by", "0110", ("by", "0001", ("half", "in"), ("half", "in")), "in"), False),
        ]:
            with self.subTest(term=term):
                self.assertIs(is_even(term), wanted)

    def test_pipes_of_even_terms_alone_stay_below_a_number(self):
        dice = Dice(36)
        seen = []
        while len(seen) < 60:
            term = some_term(dice, 9, 8)
            if "by" not in repr(term):
                continue
            yard = compiled(term)
            try:
                fills = [max(map(len, end(yard, "01" * many)[1] + ("",))) for many in (32, 64)]
            except errors.TooMany:
                continue
            seen.append(is_even(term))
            self.assertIs(is_even(term), fills[0] == fills[1])
        self.assertGreater(min(seen.count(True), seen.count(False)), 10)


class Errors(Cases):
    def test_terms(self):
        for value in no_terms():
            told = {"value": value}
            for call in (plain, slope, is_even):
                self.fails(errors.InvalidTerm, told, call, value)
            self.fails(errors.InvalidTerm, told, flow_of, value, None)
            self.fails(errors.InvalidTerm, told, put_in, value, None)
            self.fails(errors.InvalidTerm, told, put_in, "in", value)
            self.fails(errors.InvalidTerm, told, put_in, EIGHT_NOTS, value)
            self.fails(errors.InvalidTerm, {"value": ("not", value)}, plain, ("not", value))

    def test_streams(self):
        for value in no_texts() + ["0" * 1001]:
            self.fails(errors.InvalidStream, {"value": value}, flow_of, "in", value)
            self.fails(errors.InvalidStream, {"value": value}, flow_of, EIGHT_NOTS, value)
        self.same(flow_of("in", "0" * 1000), "0" * 1000)

    def test_counts_are_no_terms(self):
        for value in no_counts():
            self.assertIs(is_term(value), False)

    def test_by_name(self):
        self.same(flow_of(stream="01", term=("not", "in")), "10")
        self.same(put_in(other=("half", "in"), term=("not", "in")), ("not", ("half", "in")))
        self.same([is_term(value="in"), plain(term="in"), slope(term="in"), is_even(term="in")], [True, "in", (1, 1), True])

    def test_all_words_are_used_here(self):
        words = {node[0] for term in NINE for node in [term] if node != "in"}
        self.assertEqual(words, set(ONES) | {"late", "by", "keep", "then"})


if __name__ == "__main__":
    unittest.main()
