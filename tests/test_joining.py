"""joined and renumbered of yards.py."""

import unittest

from flowyard import errors, yards
from flowyard.yards import Yard, joined, renumbered
from helper import (COPY, EATS, HALF, OVERVIEW, PASS, ROW, SPLIT, TURN, TWICE, UNLIKE, Cases, Dice, no_counts,
                    odd_values, slow_full_run, some_yard)


def passing(number):
    return Yard([PASS] * number, [(k, 0, k + 1, 0) for k in range(number - 1)])


def texts_of(yard, stream):
    """What the exits give at the END, by a slow walk."""
    return list(slow_full_run(yard, stream, None, min)[1][3])


TREE = Yard([COPY, HALF, SPLIT, TURN], [(0, 0, 1, 0), (0, 1, 2, 0), (2, 0, 3, 0)], ((0, 1, 1, 0), ("0", "11", "010")))


class Joined(Cases):
    def test_two_rows(self):
        yard = joined(ROW, 0, Yard([PASS, HALF], [(0, 0, 1, 0)]))
        self.assertEqual(yard, Yard([TURN, TURN, PASS, HALF], [(0, 0, 1, 0), (1, 0, 2, 0), (2, 0, 3, 0)]))

    def test_single_stations(self):
        self.assertEqual(joined(Yard([PASS], []), 0, Yard([TURN], [])), Yard([PASS, TURN], [(0, 0, 1, 0)]))

    def test_both_begin_as_they_did(self):
        other = Yard([HALF, TURN], [(0, 0, 1, 0)], ((1, 0), ("001",)))
        yard = joined(TREE, 1, other)
        self.same(TREE.exits, [(1, 0), (2, 1), (3, 0)])
        self.assertEqual(yard.stations, TREE.stations + other.stations)
        self.same(yard.pipes, [(0, 0, 1, 0), (0, 1, 2, 0), (2, 0, 3, 0), (2, 1, 4, 0), (4, 0, 5, 0)])
        self.same(yard.begin, ((0, 1, 1, 0, 1, 0), ("0", "11", "010", "", "001")))
        self.same(yard.exits, [(1, 0), (3, 0), (5, 0)])

    def test_the_new_pipe_stands_amid_the_sorted_ones(self):
        yard = joined(TREE, 0, Yard([HALF], [], ((1,), ())))
        self.same(yard.pipes, [(0, 0, 1, 0), (0, 1, 2, 0), (1, 0, 4, 0), (2, 0, 3, 0)])
        self.same(yard.begin, ((0, 1, 1, 0, 1), ("0", "11", "", "010")))
        self.same(yard.exits, [(2, 1), (3, 0), (4, 0)])

    def test_the_entry_alone_gets_the_pipe(self):
        yard = joined(ROW, 0, OVERVIEW)
        self.same(yard.pipes, [(0, 0, 1, 0), (1, 0, 2, 0), (2, 0, 3, 0), (2, 1, 4, 1), (3, 0, 4, 0)])
        self.same(yard.exits, [(4, 0)])

    def test_flows_of_one_come_to_other(self):
        dice = Dice(7)
        tried = 0
        while tried < 30:
            one, other = some_yard(dice, 3), some_yard(dice, 3)
            if len(one.exits) + len(other.exits) > 4:
                continue
            tried += 1
            outlet = dice.below(len(one.exits))
            stream = dice.text(4)
            ahead = texts_of(one, stream)
            behind = texts_of(other, ahead[outlet])
            yard = joined(one, outlet, other)
            self.assertEqual(texts_of(yard, stream), ahead[:outlet] + ahead[outlet + 1:] + behind)
            self.assertEqual(len(yard), len(one) + len(other))

    def test_by_name(self):
        self.assertEqual(joined(other=ROW, outlet=0, one=OVERVIEW), joined(OVERVIEW, 0, ROW))

    def test_neither_is_changed(self):
        before = repr(TREE), repr(OVERVIEW)
        joined(TREE, 0, OVERVIEW)
        joined(OVERVIEW, 0, TREE)
        self.assertEqual((repr(TREE), repr(OVERVIEW)), before)

    def test_no_exit_of_one(self):
        for value in no_counts() + [3, 4, 10 ** 29]:
            self.fails(errors.InvalidExit, {"value": value}, joined, TREE, value, ROW)
        for value in [1, 2]:
            self.fails(errors.InvalidExit, {"value": value}, joined, ROW, value, TREE)

    def test_twelve_stations_and_thirteen(self):
        self.assertEqual(joined(passing(6), 0, passing(6)), passing(12))
        self.assertEqual(joined(passing(11), 0, passing(1)), passing(12))
        for many in (1, 6, 12):
            self.fails(errors.TooMany, {"what": "stations", "limit": 12}, joined, passing(many), 0, passing(13 - many))
        self.fails(errors.TooMany, {"what": "stations", "limit": 12}, joined, passing(12), 0, passing(12))

    def test_three_exits_and_four(self):
        self.assertEqual(len(joined(TREE, 2, ROW).exits), 3)
        self.assertEqual(len(joined(ROW, 0, TREE).exits), 3)
        two = Yard([COPY], [])
        self.assertEqual(len(joined(two, 1, two).exits), 3)
        self.fails(errors.TooMany, {"what": "exits", "limit": 3}, joined, TREE, 0, two)
        self.fails(errors.TooMany, {"what": "exits", "limit": 3}, joined, two, 1, TREE)

    def test_sequence_of_the_errors(self):
        wide = joined(passing(10), 0, Yard([COPY, COPY], [(0, 0, 1, 0)]))
        self.fails(errors.InvalidExit, {"value": 3}, joined, wide, 3, TREE)
        self.fails(errors.InvalidExit, {"value": True}, joined, passing(12), True, passing(12))
        self.fails(errors.TooMany, {"what": "stations", "limit": 12}, joined, wide, 0, TREE)


class Renumbered(Cases):
    def test_a_tree(self):
        yard = renumbered(TREE, [0, 2, 3, 1])
        self.assertEqual(yard.stations, [COPY, SPLIT, TURN, HALF])
        self.same(yard.pipes, [(0, 0, 3, 0), (0, 1, 1, 0), (1, 0, 2, 0)])
        self.same(yard.begin, ((0, 1, 0, 1), ("0", "11", "010")))
        self.same(yard.exits, [(1, 1), (2, 0), (3, 0)])

    def test_contents_go_with_their_pipes(self):
        stations = [COPY, COPY, PASS, TURN, HALF]
        pipes = [(0, 0, 1, 0), (0, 1, 4, 0), (1, 0, 2, 0), (1, 1, 3, 0)]
        yard = Yard(stations, pipes, ((0, 0, 0, 0, 1), ("1", "", "10", "011")))
        found = renumbered(yard, (0, 4, 1, 3, 2))
        self.assertEqual(found.stations, [COPY, HALF, COPY, TURN, PASS])
        self.same(found.pipes, [(0, 0, 2, 0), (0, 1, 1, 0), (2, 0, 4, 0), (2, 1, 3, 0)])
        self.same(found.begin, ((0, 1, 0, 0, 0), ("1", "", "10", "011")))
        fork = Yard([COPY, TWICE, EATS, PASS, TURN], [(0, 0, 1, 0), (0, 1, 2, 0), (1, 0, 3, 0), (2, 0, 4, 0)],
                    ((0,) * 5, ("0", "1", "00", "11")))
        swapped = renumbered(fork, [0, 2, 1, 4, 3])
        self.assertEqual(swapped.stations, [COPY, EATS, TWICE, TURN, PASS])
        self.same(swapped.pipes, [(0, 0, 2, 0), (0, 1, 1, 0), (1, 0, 3, 0), (2, 0, 4, 0)])
        self.same(swapped.begin, ((0,) * 5, ("0", "1", "11", "00")))

    def test_the_same_sequence(self):
        for yard in (ROW, OVERVIEW, TREE, passing(12), passing(1)):
            self.assertEqual(renumbered(yard, list(range(len(yard)))), yard)
            self.assertEqual(renumbered(yard, tuple(range(len(yard)))), yard)

    def test_by_name_and_without_a_change_of_what_was_passed(self):
        order = [0, 2, 3, 1]
        before = repr(TREE)
        self.assertEqual(renumbered(order=order, yard=TREE), renumbered(TREE, order))
        self.assertEqual([order, repr(TREE)], [[0, 2, 3, 1], before])

    def test_flows_stay_with_their_lines(self):
        dice = Dice(3)
        for _ in range(60):
            yard = some_yard(dice, 5)
            order = [0]
            while len(order) < len(yard):
                free = [k for k in range(1, len(yard)) if k not in order
                        and all(pipe[0] in order for pipe in yard.pipes if pipe[2] == k)]
                order.append(dice.one_of(free))
            found = renumbered(yard, order)
            self.assertEqual(found.stations, [yard.stations[k] for k in order])
            back = renumbered(found, [order.index(k) for k in range(len(order))])
            self.assertEqual(back, yard)
            stream = dice.text(3)
            by_line = dict(zip([(order.index(k), line) for k, line in yard.exits], texts_of(yard, stream)))
            self.assertEqual(texts_of(found, stream), [by_line[line] for line in found.exits])

    def wrong(self, yard, order):
        with self.subTest(order=repr(order)):
            self.fails(errors.InvalidOrder, {"value": order}, renumbered, yard, order)

    def test_no_list_of_all_numbers_each_once(self):
        for order in odd_values() + [0, 1, "", "01", "0123", [], (), [0, 1, 2], [0, 1, 2, 3, 4], [0, 1, 2, 2],
                                     [0, 0, 1, 2, 3], [1, 2, 3, 4], [-1, 0, 1, 2], [0, 1, 2, 10 ** 29], {0: 0, 1: 1},
                                     {0, 1, 2, 3}, range(4), [0, 1, 2, [3]], [0, 1, 2, "3"], [0, 1, 2, None]]:
            self.wrong(TREE, order)

    def test_bools_are_no_numbers(self):
        self.wrong(TREE, [False, 1, 2, 3])
        self.wrong(TREE, [0, True, 2, 3])
        self.wrong(passing(1), [False])

    def test_each_pipe_leads_to_a_greater_number(self):
        self.wrong(TREE, [0, 3, 2, 1])
        self.wrong(TREE, [1, 0, 2, 3])
        self.wrong(TREE, [2, 0, 1, 3])
        self.wrong(ROW, [1, 0])
        self.wrong(OVERVIEW, [0, 2, 1])
        self.wrong(Yard([COPY, PASS, UNLIKE], [(0, 0, 2, 0), (0, 1, 1, 0), (1, 0, 2, 1)]), [0, 2, 1])


class Interface(Cases):
    def test_functions_are_defined_in_the_file(self):
        for call in (joined, renumbered):
            self.assertEqual(call.__module__, "flowyard.yards")
            self.assertIs(getattr(yards, call.__name__), call)


if __name__ == "__main__":
    unittest.main()
