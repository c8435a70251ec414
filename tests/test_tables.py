"""[34]: tables, least tables, and the places of the rests in them."""

import unittest

from flowyard import errors
from flowyard.rests import rest_behind, rests
from flowyard.same import are_same, classes, is_table_of, least_table
from flowyard.yards import Station, Yard, joined
from helper import HALF, OVERVIEW, PASS, SPLIT, TURN, TWICE, Cases, Dice, odd_values
from slow_rests import Steps, all_texts, slow_flows
from some_held import some_held, some_two
from some_yards import COPIES, EATING, HOLDS, LATE, TWO_TURNS, counting, doubling
from spoiling import few, with_tuples, wrong_kinds

# Its standings 0 and 2 tell the same, as 1 and 3 do.
DOUBLED = Yard([Station(1, 1, [
    ("1", [(("0",), 1, 1), (("1",), 3, 1)]),
    ("1", [(("1",), 2, 1), (("",), 1, 1)]),
    ("1", [(("0",), 3, 1), (("1",), 1, 1)]),
    ("1", [(("1",), 0, 1), (("",), 3, 1)]),
])], [])
SINGLE = Yard([Station(1, 1, [("1", [(("0",), 1, 1), (("1",), 1, 1)]), ("1", [(("1",), 0, 1), (("",), 1, 1)])])], [])


def told(table, stream):
    """The flows that the table tells."""
    first, rows = table
    flows = list(first)
    place = 0
    for sign in stream:
        place, texts = rows[place][int(sign)]
        flows = [flow + text for flow, text in zip(flows, texts)]
    return flows


def slow_table(steps):
    """The least table: rests are joined until only those are apart of which some text tells."""
    number = len(steps.rests)
    apart = {(one, other) for one in range(number) for other in range(number)
             if [texts for _, texts in steps.steps[one]] != [texts for _, texts in steps.steps[other]]}
    grown = True
    while grown:
        grown = False
        for one in range(number):
            for other in range(number):
                goals = [(steps.steps[one][sign][0], steps.steps[other][sign][0]) for sign in (0, 1)]
                if (one, other) not in apart and any(pair in apart for pair in goals):
                    apart.add((one, other))
                    grown = True
    joins = [min(other for other in range(number) if (rest, other) not in apart) for rest in range(number)]
    kept = [joins[0]]
    for rest in kept:
        kept += [joins[goal] for goal, _ in steps.steps[rest] if joins[goal] not in kept]
        kept = list(dict.fromkeys(kept))
    return slow_rows(steps, joins)


def slow_rows(steps, joins):
    order = [joins[0]]
    at = 0
    while at < len(order):
        for goal, _ in steps.steps[order[at]]:
            if joins[goal] not in order:
                order.append(joins[goal])
        at += 1
    rows = [[(order.index(joins[goal]), texts) for goal, texts in steps.steps[rest]] for rest in order]
    return (steps.first, rows), [order.index(join) for join in joins]


def moved(table, places):
    """The same table with its places numbered anew: place k becomes places[k]."""
    rows = [None] * len(places)
    for place, row in enumerate(table[1]):
        rows[places[place]] = [(places[goal], texts) for goal, texts in row]
    return (table[0], rows)


class LeastTables(Cases):
    def test_the_documents_yards(self):
        self.same(least_table(COPIES), (("",), [[(0, ("0",)), (0, ("1",))]]))
        self.same(least_table(HOLDS), (("",), [[(1, ("",)), (2, ("",))], [(0, ("00",)), (0, ("01",))],
                                               [(0, ("10",)), (0, ("11",))]]))
        self.same([classes(COPIES), classes(HOLDS)], [[0], [0, 1, 2]])

    def test_what_is_alike_is_one_place(self):
        self.same(least_table(DOUBLED), (("",), [[(1, ("0",)), (1, ("1",))], [(0, ("1",)), (1, ("",))]]))
        self.same(least_table(DOUBLED), least_table(SINGLE))
        self.same(classes(DOUBLED), [0, 1, 1, 0])
        self.same(classes(yard=SINGLE), [0, 1])
        self.same(least_table(counting(60)), (("",), [[(0, ("",)), (0, ("",))]]))
        self.same(classes(counting(60)), [0] * 60)

    def test_by_long_texts_alone(self):
        # Only the fourth sign shows at which of the standings it began.
        row = Yard([Station(1, 1, [("1", [(("0",), k + 1, 1)] * 2) for k in range(3)] + [("1", [(("1",), 3, 1)] * 2)])], [])
        self.same(least_table(row)[1], [[(1, ("0",))] * 2, [(2, ("0",))] * 2, [(3, ("0",))] * 2, [(3, ("1",))] * 2])
        self.same(classes(row), [0, 1, 2, 3])

    def test_several_exits_and_what_was_there(self):
        split = Yard([SPLIT, TURN], [(0, 1, 1, 0)], ((1, 0), ("011",)))
        self.same(least_table(split), (("", "100"), [[(1, ("", "1")), (1, ("", "0"))], [(0, ("0", "")), (0, ("1", ""))]]))
        self.same(least_table(joined(split, 0, EATING))[0], ("100", ""))

    def test_equal_exactly_if_they_are_the_same(self):
        for one, other in [(COPIES, TWO_TURNS), (COPIES, LATE), (DOUBLED, SINGLE), (LATE, joined(LATE, 0, TWO_TURNS)),
                           (EATING, counting(50)), (COPIES, EATING), (COPIES, Yard([TWICE, HALF], [(0, 0, 1, 0)]))]:
            self.assertIs(least_table(one) == least_table(other), are_same(one, other))

    def test_many_yards_by_joining_rests(self):
        dice = Dice(341)
        joined_some = 0
        for _ in range(80):
            yard = some_two(dice)[1]
            steps = Steps(yard)
            table, places = slow_table(steps)
            self.same(least_table(yard), table)
            self.same(classes(yard), places)
            joined_some += len(places) > len(table[1])
            for stream in all_texts(4):
                self.assertEqual(told(table, stream), slow_flows(yard, stream))
                place = 0
                for sign in stream:
                    place = table[1][place][int(sign)][0]
                self.assertEqual(classes(yard)[rest_behind(yard, stream)], place)
        self.assertGreater(joined_some, 10)

    def test_returned_lists_are_new(self):
        for found in (least_table(HOLDS)[1], least_table(HOLDS)[1][0], classes(HOLDS)):
            found.clear()
        self.same(len(least_table(HOLDS)[1]), 3)
        self.same(classes(HOLDS), [0, 1, 2])

    def test_looking_through(self):
        for call in (least_table, classes):
            self.fails(errors.NotHeld, {"stream": "0" * 7}, call, OVERVIEW)
            self.fails(errors.TooMany, {"what": "rests", "limit": 60}, call, counting(61))
            self.fails(errors.TooMany, {"what": "signs", "limit": 16}, call, yard=doubling(5))
        for value in (None, [], least_table(COPIES)):
            self.fails(errors.NotHeld, {"stream": "0" * 7}, is_table_of, OVERVIEW, value)
            self.fails(errors.TooMany, {"what": "rests", "limit": 60}, is_table_of, counting(61), value)
            self.fails(errors.TooMany, {"what": "signs", "limit": 16}, is_table_of, value=value, yard=doubling(5))


class IsTableOf(Cases):
    def test_the_documents_table(self):
        twice = (("",), [[(1, ("0",)), (0, ("1",))], [(1, ("0",)), (0, ("1",))]])
        self.assertIs(is_table_of(COPIES, twice), True)
        self.assertIs(is_table_of(LATE, twice), False)
        self.assertIs(is_table_of(value=twice, yard=TWO_TURNS), True)

    def test_least_ones_and_others(self):
        for yard in (COPIES, HOLDS, DOUBLED, LATE, EATING, counting(60), Yard([SPLIT], [])):
            table = least_table(yard)
            first, rows = table
            self.assertIs(is_table_of(yard, table), True)
            self.assertIs(is_table_of(yard, with_tuples(table)), True)
            self.assertIs(is_table_of(yard, (first, rows + [rows[0]])), True)
            self.assertIs(is_table_of(yard, (first, rows + rows)), True)
            rests_as_places = (first, [[(goal, texts) for goal, texts in row] for row in Steps(yard).steps])
            self.assertIs(is_table_of(yard, rests_as_places), True)

    def test_places_that_are_not_come_to_tell_nothing_but_must_be_places(self):
        rows = [[(0, ("0",)), (0, ("1",))]]
        for more, wanted in [([[(1, ("",)), (0, ("1111",))]], True), ([[(2, ("",)), (0, ("",))]], False),
                             ([[(0, ("",))]], False), ([None], False), ([[(0, ("", "")), (0, ("",))]], False),
                             ([[(0, ("2",)), (0, ("",))]], False), ([[(-1, ("",)), (0, ("",))]], False), ([[]], False)]:
            self.assertIs(is_table_of(COPIES, (("",), rows + more)), wanted)

    def test_place_0_is_the_first_one(self):
        table = least_table(HOLDS)
        self.assertIs(is_table_of(HOLDS, moved(table, [0, 2, 1])), True)
        for places in ([1, 0, 2], [2, 1, 0], [1, 2, 0]):
            self.assertIs(is_table_of(HOLDS, moved(table, places)), False)

    def test_with_less_and_more(self):
        for yard in (COPIES, HOLDS, DOUBLED, LATE):
            first, rows = least_table(yard)
            for at in range(len(rows)):
                self.assertIs(is_table_of(yard, (first, rows[:at] + rows[at + 1:])), False)
                for sign in (0, 1):
                    goal, texts = rows[at][sign]
                    for other in [(goal, (texts[0] + "0",)), (goal, (texts[0][1:] + "1" * (texts[0][:1] != "1"),)),
                                  ((goal + 1) % (len(rows) + 1), texts)]:
                        row = [other if sign == k else rows[at][k] for k in (0, 1)]
                        value = (first, rows[:at] + [row] + rows[at + 1:])
                        self.assertIs(is_table_of(yard, value), False)
            for wrong in [("0",), ("",) * 2, (), "", None]:
                self.assertIs(is_table_of(yard, (wrong, rows)), False)

    def test_what_the_empty_stream_gives(self):
        begun = Yard([PASS, PASS], [(0, 0, 1, 0)], ((0, 0), ("01",)))
        rows = [[(0, ("0",)), (0, ("1",))]]
        self.same([is_table_of(begun, ((first,), rows)) for first in ("01", "", "0", "011", "10")],
                  [True, False, False, False, False])
        self.assertIs(is_table_of(COPIES, (("01",), rows)), False)

    def test_kinds(self):
        for yard in (COPIES, HOLDS, Yard([SPLIT], [])):
            for value in wrong_kinds(least_table(yard)):
                self.assertIs(is_table_of(yard, value), False)
        for value in odd_values() + [[], (), "", 0, (("",), []), (("",), ()), (("",),), (("",), [[]]), ([], [])]:
            self.assertIs(is_table_of(COPIES, value), False)

    def test_many_yards(self):
        dice = Dice(342)
        for _ in range(40):
            one, other = some_two(dice)
            self.assertIs(is_table_of(one, least_table(one)), True)
            self.assertIs(is_table_of(one, least_table(other)), are_same(one, other))
            self.assertIs(is_table_of(one, (Steps(one).first, Steps(one).steps)), True)
            for value in few(wrong_kinds(least_table(one)), 25):
                self.assertIs(is_table_of(one, value), False)

    def test_long_tables(self):
        rows = [[((place + 1) % 900, ("0",)), (place, ("1",))] for place in range(900)]
        self.assertIs(is_table_of(COPIES, (("",), rows)), True)
        rows[899] = [(0, ("0",)), (899, ("",))]
        self.assertIs(is_table_of(COPIES, (("",), rows)), False)
        rows = [[((place + 1) % 900, ("",)), (place, ("",))] for place in range(900)]
        self.assertIs(is_table_of(counting(60), (("",), rows)), True)
        self.same(len(rests(counting(60))), 60)

    def test_nothing_that_was_passed_is_changed(self):
        table = least_table(HOLDS)
        before = repr(table)
        self.assertIs(is_table_of(HOLDS, table), True)
        self.assertEqual(repr(table), before)
        table[1][2][1] = (0, ("10",))
        self.assertIs(is_table_of(HOLDS, table), False)
        self.same(some_held(Dice(1)), some_held(Dice(1)))


if __name__ == "__main__":
    unittest.main()
