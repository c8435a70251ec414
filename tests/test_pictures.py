"""[73], [76]: pictures, unheard texts, exits that are told apart through taps, and twins."""

import unittest

from flowyard import errors
from flowyard.taps import are_twins, can_be_heard, heard_apart, picture, rests_behind, twins, unheard, view
from flowyard.yards import Yard, joined
from helper import PASS, SPLIT, TWICE, Cases, Dice, no_counts, odd_values
from slow_rests import all_texts
from slow_taps import is_part_of, parts_of_text
from some_held import some_held, some_two
from some_looked import fails_looking, fails_looking_at_two
from some_taps import HELD, HUNDRED, HUNDRED_AND_ONE, LATCH, OPENS, giving, spots, zeros
from some_yards import COPIES, EATING, HOLDS, LATE, ONES, TURNING, counting, only
from spoiling import few, with_tuples, wrong_kinds
from test_watch import TWO_EXITS

ZEROS = Yard([only("0")], [])
VIEWS = {"what": "views", "limit": 200}


class Pictures(Cases):
    def test_the_documents_yard(self):
        self.same([picture(HELD, 0), unheard(HELD, 0)], [[([0, 1], 0, 1), ([1], None, 1)], ["10"]])

    def test_some(self):
        for yard, told in [(COPIES, [([0], 0, 0)]), (EATING, [([0], None, None)]), (ONES, [([0], None, 0)]),
                           (giving("01"), [([0], 1, 2), ([0], None, 2), ([0], None, None)]),
                           (giving("011"), [([0], 1, 2), ([0], None, 2), ([0], None, 3), ([0], None, None)])]:
            self.same(picture(yard, 0), told)

    def test_numbered_as_they_are_come_to(self):
        opening = giving("10", OPENS)
        self.same(picture(opening, 0), [([0, 1], 1, 2), ([0, 1], 3, 3), ([0, 1], 1, 3), ([1], 3, 3)])
        self.same(picture(outlet=1, yard=TWO_EXITS), [([0, 1], 0, 0)])

    def test_many_by_the_views_behind_all_texts(self):
        dice = Dice(731)
        many = 0
        for _ in range(60):
            yard = some_held(dice)
            if dice.below(2):
                yard = joined(yard, 0, dice.one_of([Yard([TWICE], []), giving("10", PASS), giving("0110", PASS),
                                                    Yard([LATCH], [])]))
            found = picture(yard, 0)
            views = [view(yard, 0, "")]
            texts = [""]
            for number, text in enumerate(texts):
                row = []
                for sign in "01":
                    behind = view(yard, 0, text + sign)
                    if behind and behind not in views:
                        views.append(behind)
                        texts.append(text + sign)
                    row.append(views.index(behind) if behind else None)
                self.same(found[number], (rests_behind(yard, 0, text), *row))
            self.same(len(found), len(views))
            many = max(many, len(views))
        self.assertGreater(many, 5)

    def test_two_hundred_views_and_more(self):
        self.same(len(picture(zeros(199), 0)), 200)
        self.same([row[1:] for row in picture(zeros(199), 0)], [(k + 1, None) for k in range(199)] + [(None, None)])
        self.same(unheard(zeros(199), 0), ["1", "0" * 200])
        for call in (picture, unheard):
            self.fails(errors.TooMany, VIEWS, call, zeros(200), 0)
        # What can be heard of it is told all the same.
        self.same([can_be_heard(zeros(200), 0, "0" * 200), can_be_heard(zeros(200), 0, "0" * 201)], [True, False])


class Unheard(Cases):
    def test_some(self):
        for yard, told in [(COPIES, []), (EATING, ["0", "1"]), (ONES, ["0"]), (giving("01"), ["00", "10", "11"]),
                           (LATE, []),
                           (joined(HELD, 0, HELD), ["10"]), (ZEROS, ["1"]), (giving("010", OPENS), []),
                           (giving(""), ["0", "1"]), (giving("0"), ["1", "00"]), (giving("0000"), ["1", "00000"])]:
            self.same(unheard(yard, 0), told)
        self.same(unheard(outlet=1, yard=Yard([SPLIT, only("0")], [(0, 1, 1, 0)])), ["1"])

    def test_many_by_trying_all_short_texts(self):
        dice = Dice(732)
        some = 0
        for _ in range(60):
            yard = some_held(dice)
            if dice.below(3):
                yard = joined(yard, 0, dice.one_of([Yard([LATCH], []), giving("10", only("0")),
                                                    giving("0110", EATING.stations[0])]))
            told = unheard(yard, 0)
            self.same(told, sorted(told, key=lambda text: (len(text), text)))
            silent = {text for text in all_texts(6) if not can_be_heard(yard, 0, text)}
            least = [text for text in all_texts(6) if text in silent and not parts_of_text(text) & silent]
            self.same([text for text in told if len(text) <= 6], least)
            some += len(least) > 1
            for text in all_texts(6):
                self.same(text in silent, any(is_part_of(each, text) for each in told))
        self.assertGreater(some, 10)

    def test_a_hundred_texts_and_more(self):
        found = unheard(giving(HUNDRED), 0)
        self.same([len(found), len(set(found))], [100, 100])
        for text in few(found, 12):
            self.same(is_part_of(text, HUNDRED), False)
            self.same([is_part_of(text[:at] + text[at + 1:], HUNDRED) for at in range(len(text))], [True] * len(text))
        self.fails(errors.TooMany, {"what": "texts", "limit": 100}, unheard, giving(HUNDRED_AND_ONE), 0)
        self.same(len(picture(giving(HUNDRED_AND_ONE), 0)), 17)


class Twins(Cases):
    def test_some(self):
        for one, other, told in [(COPIES, TURNING, None), (COPIES, HOLDS, None), (COPIES, ONES, "0"),
                                 (EATING, ONES, "1"), (HELD, COPIES, "10"),
                                 (giving("01"), giving("10"), "01"), (giving("01"), giving("011"), "11"),
                                 (ZEROS, ONES, "0"),
                                 (HELD, joined(HELD, 0, HELD), None), (giving("0101"), giving("0101"), None),
                                 (EATING, giving(""), None)]:
            for mine, yours in [(one, other), (other, one)]:
                self.same(heard_apart(mine, 0, yours, 0), told)
                pairs = twins(mine, 0, yours, 0)
                self.same(pairs is None, told is not None)
                if told is None:
                    self.assertIs(are_twins(mine, 0, yours, 0, pairs), True)

    def test_by_their_exits(self):
        other = Yard([SPLIT, only("1")], [(0, 1, 1, 0)])
        for outlet, second, told in [(0, 0, None), (1, 0, None), (0, 1, "1"), (1, 1, "1")]:
            self.same(heard_apart(TWO_EXITS, outlet, other, second), told)
            self.same(heard_apart(second=second, other=other, outlet=outlet, one=TWO_EXITS), told)
            self.same(heard_apart(other, second, TWO_EXITS, outlet), told)
        self.assertIs(are_twins(TWO_EXITS, 1, other, 0, [(0, 0)]), True)
        self.assertIs(are_twins(other, 1, TWO_EXITS, 1, [(0, 0)]), False)

    def test_many_by_trying_all_short_texts(self):
        dice = Dice(761)
        counts = [0, 0]
        for _ in range(70):
            one, other = some_two(dice)
            if dice.below(2):
                end = dice.one_of([Yard([LATCH], []), giving("10", only("0")), giving("01", EATING.stations[0])])
                one, other = joined(one, 0, end), joined(other, 0, dice.one_of([end, Yard([LATCH], [])]))
            apart = [text for text in all_texts(5) if can_be_heard(one, 0, text) != can_be_heard(other, 0, text)]
            found, pairs = heard_apart(one, 0, other, 0), twins(one, 0, other, 0)
            counts[found is None] += 1
            if found is None or len(found) <= 5:
                self.same([found], apart[:1] or [None])
            else:
                self.same(apart, [])
                self.assertNotEqual(can_be_heard(one, 0, found), can_be_heard(other, 0, found))
            self.same(pairs is None, found is not None)
            if pairs is not None:
                self.assertIs(self.slow_are_twins(one, other, pairs), True)
                self.assertIs(are_twins(one, 0, other, 0, pairs), True)
        self.assertGreater(min(counts), 15)

    def slow_are_twins(self, one, other, value):
        mine, yours = picture(one, 0), picture(other, 0)
        if (0, 0) not in value:
            return False
        for my_view, your_view in value:
            for sign in (1, 2):
                behind = (mine[my_view][sign], yours[your_view][sign])
                if behind != (None, None) and behind not in value:
                    return False
        return True

    def test_lists_by_the_words_of_the_point(self):
        dice = Dice(762)
        counts = [0, 0]
        for one, other in [(giving("01"), giving("01")), (HELD, joined(HELD, 0, HELD)),
                           (giving("010", OPENS), giving("010", OPENS)),
                           (giving("01"), giving("011")), (giving("10"), giving("1"))]:
            paper = twins(one, 0, other, 0) or [(0, 0)]
            sizes = [len(picture(yard, 0)) for yard in (one, other)]
            for _ in range(60):
                value = [pair for pair in paper if dice.below(6)]
                value += [(dice.below(sizes[0]), dice.below(sizes[1])) for _ in range(dice.below(4))]
                wanted = self.slow_are_twins(one, other, value)
                counts[wanted] += 1
                self.assertIs(are_twins(one, 0, other, 0, value), wanted)
        self.assertGreater(min(counts), 40)

    def test_less_more_and_twice(self):
        paper = twins(giving("01"), 0, giving("01"), 0)
        self.same(sorted(paper), [(0, 0), (1, 1), (2, 2)])
        for value, wanted in [(paper[::-1], True), (tuple(paper), True), (paper * 2, True), (paper + [(2, 2)], True),
                              (paper + [(0, 2)], False), (paper + [(1, 2)], False), (paper + [(3, 3)], False),
                              (paper[1:], False), ([], False)]:
            self.assertIs(are_twins(giving("01"), 0, giving("01"), 0, value), wanted)
        for at in range(3):
            self.assertIs(are_twins(giving("01"), 0, giving("01"), 0, paper[:at] + paper[at + 1:]), False)

    def test_any_value(self):
        paper = twins(giving("01"), 0, giving("01"), 0)
        for value in wrong_kinds(paper) + odd_values() + [[], (), "", 0, [None], [()], [(0,)], [[0, 0]], [(0, 0, 0)],
                                                          [(False, 0)], [(0, False)],
                                                          [(0, -1)], [("0", "0")], {(0, 0): 0}, {(0, 0)},
                                                          [(None, None)], [(0, 0), (None, None)]]:
            self.assertIs(are_twins(giving("01"), 0, giving("01"), 0, value), False)
            self.assertIs(are_twins(COPIES, 0, COPIES, 0, value), False)
        self.assertIs(are_twins(COPIES, 0, COPIES, 0, [(0, 0)]), True)
        self.assertIs(are_twins(value=((0, 0),), second=0, other=TURNING, outlet=0, one=COPIES), True)
        self.assertIs(are_twins(COPIES, 0, COPIES, 0, with_tuples([(0, 0), (0, 0)])), True)
        self.assertIs(are_twins(COPIES, 0, ONES, 0, [(0, 0)]), False)

    def test_many_views(self):
        self.same(len(twins(zeros(199), 0, zeros(199), 0)), 200)
        self.same(heard_apart(zeros(199), 0, zeros(198), 0), "0" * 199)


class Errors(Cases):
    def test_exits(self):
        for call in (picture, unheard):
            self.fails_on(errors.InvalidExit, no_counts() + [1], lambda value: call(counting(16), value))
            self.fails(errors.InvalidExit, {"value": 1}, call, outlet=1, yard=counting(61))
        calls = [heard_apart, twins, lambda *told: are_twins(*told, None)]
        for call in calls:
            self.fails_on(errors.InvalidExit, no_counts() + [1], lambda value: call(counting(61), value, COPIES, None))
            self.fails_on(errors.InvalidExit, no_counts() + [1, 2], lambda value: call(counting(61), 0, COPIES, value))
            self.fails_on(errors.InvalidExit, [1], lambda value: call(TWO_EXITS, 1, COPIES, value))
            self.fails_on(errors.InvalidExit, [2], lambda value: call(COPIES, 0, TWO_EXITS, value))

    def test_looking_through(self):
        for call in (picture, unheard):
            fails_looking(self, lambda yard: call(yard, 0))
        for call in (heard_apart, twins):
            fails_looking_at_two(self, lambda one, other: call(one, 0, other, 0))
        for value in (None, [(0, 0)]):
            fails_looking_at_two(self, lambda one, other: are_twins(one, 0, other, 0, value))

    def test_rests_spots_and_views(self):
        rests, many = {"what": "rests", "limit": 24}, {"what": "spots", "limit": 400}
        for call in (picture, unheard):
            self.fails(errors.TooMany, rests, call, counting(25), 0)
            self.fails(errors.TooMany, many, call, spots(5), 0)
        for call in [heard_apart, twins, lambda *told: are_twins(*told, None)]:
            # All of this of the one ahead of all of the other one; views behind all of it.
            self.fails(errors.TooMany, rests, call, counting(25), 0, counting(61), 0)
            self.fails(errors.TooMany, many, call, spots(5), 0, counting(61), 0)
            self.fails(errors.TooMany, {"what": "rests", "limit": 60}, call, counting(24), 0, counting(61), 0)
            self.fails(errors.TooMany, rests, call, spots(4), 0, counting(25), 0)
            self.fails(errors.TooMany, many, call, zeros(200), 0, spots(5), 0)
            self.fails(errors.TooMany, rests, call, zeros(200), 0, counting(25), 0)
            self.fails(errors.TooMany, VIEWS, call, zeros(200), 0, COPIES, 0)
            self.fails(errors.TooMany, VIEWS, call, COPIES, 0, zeros(200), 0)

    def test_nothing_is_changed(self):
        value = [(0, 0)]
        self.assertIs(are_twins(COPIES, 0, COPIES, 0, value), True)
        self.same(value, [(0, 0)])
        for call in (picture, unheard):
            found = call(giving("01"), 0)
            before = repr(found)
            for row in found:
                if isinstance(row, tuple):
                    row[0].clear()
            found.clear()
            self.assertEqual(repr(call(giving("01"), 0)), before)
        twins(COPIES, 0, COPIES, 0).clear()
        self.same(twins(COPIES, 0, COPIES, 0), [(0, 0)])


if __name__ == "__main__":
    unittest.main()
