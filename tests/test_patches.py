"""[85], [86]: changes, patches, parts, what shows them, merges, kept and lost exits."""

import unittest
from itertools import combinations

from flowyard import errors
from flowyard.patches import (greatest_keeping, kept_exits, least_changing, lost_exits, merged, overfilling, patched,
                              shown_by,
                              word)
from flowyard.runs import flows
from flowyard.yards import Station, Yard
from helper import COPY, OVERVIEW, PASS, SPLIT, TURN, TWICE, UNLIKE, Cases, Dice, odd_values, some_yard
from slow_rests import all_texts, slow_flows, slow_rest
from some_held import some_held
from some_looked import fails_looking
from some_yards import COPIES, EATING, HELD_BY_TWO, counting, doubling, only
from spoiling import few, with_tuples

WIDE = Station(1, 1, [("1", [(("0",), 2, 1), (("1",), 1, 1)]), ("1", [(("1",), 1, 1), (("0",), 2, 1)]),
                      ("1", [(("0",), 0, 1), (("1",), 1, 1)])])
BASE = Yard([WIDE], [])
TOLD = [(0, 0, "0", (("0",), 0, 1)), (0, 2, "1", (("0",), 1, 1))]
TWO_WAYS = Yard([SPLIT, PASS, TURN], [(0, 0, 1, 0), (0, 1, 2, 0)])
THREE = Yard([COPY, COPY], [(0, 1, 1, 0)])
# It counts zeros, and patched so ones: each rest with each.
TO_ONES = [(0, 0, "0", (("",), 0, 1)), (0, 0, "1", (("0",), 0, 1))]
THOUSAND = (counting(50, only("0")), TO_ONES + [(1, 0, "0", (("0",), 2, 1)), (2, 2, "0", (("0",), 0, 1))])
MORE_PAIRS = (counting(59, only("0")), TO_ONES + [(1, 3, "0", (("0",), 3, 1))])
PAIRS = {"what": "pairs", "limit": 1000}
# It is patched by an own row, by one that gives too much, by one that gives another sign.
BROKEN = (HELD_BY_TWO, [(0, 0, "0", (("0", "0"), 0, 1)), (1, 0, "0", (("00",), 0, 1)), (2, 0, "00", (("1",), 0, 1))])
ALL_PARTS = {many: sorted([list(part) for size in range(many + 1) for part in combinations(range(many), size)])
             for many in range(7)}
PAST_ONE = [(1, 0, "0", (("1",), 0, 1))]


def all_places(yard):
    places = []
    for number, station in enumerate(yard.stations):
        for standing, (reads, rows) in enumerate(station.standings()):
            signs = ("00", "01", "10", "11") if reads == "12" else ("0", "1")
            places += [((number, standing, each), row) for each, row in zip(signs, rows)]
    return places


def some_patch(dice, yard, most):
    """A patch of some changes in any sequence, a third of them putting in the row that is there."""
    places = all_places(yard)
    found = []
    for _ in range(1 + dice.below(min(most, len(places)))):
        place, row = places.pop(dice.below(len(places)))
        gives, goal, ticks = row
        other = dice.one_of([gives, tuple(dice.text(2) for _ in gives), tuple("" for _ in gives)])
        goal = dice.one_of([goal, dice.below(len(yard.stations[place[0]]))])
        found.append((*place, dice.one_of([row, (other, goal, 1 + dice.below(9)), (other, goal, ticks)])))
    return found


def slow_patched(yard, changes):
    """The yard, all of its rows written anew."""
    rows = {place: row for place, row in all_places(yard)}
    rows.update({change[:3]: change[3] for change in changes})
    stations = []
    for number, station in enumerate(yard.stations):
        standings = []
        for standing, (reads, _) in enumerate(station.standings()):
            signs = ("00", "01", "10", "11") if reads == "12" else ("0", "1")
            standings.append((reads, [rows[(number, standing, each)] for each in signs]))
        stations.append(Station(station.ins, station.outs, standings))
    return Yard(stations, yard.pipes, yard.begin)


def slow_word(yard, changes, most):
    """The word of these changes and what shows it, as far as streams of so many signs tell."""
    other = slow_patched(yard, changes)
    for stream in all_texts(most):
        if any(len(text) > 3 for text in slow_rest(other, stream)[1]):
            return "overfills", stream
    for stream in all_texts(most):
        if slow_flows(other, stream) != slow_flows(yard, stream):
            return "changes", stream
    return "keeps", None


def some_twofold(dice):
    """A stream goes two ways, which are read together; one of them passes a sign for each."""
    many = 1 + dice.below(2)
    rows = [("1", [((dice.one_of("01"),), dice.below(many), 1) for _ in "01"]) for _ in range(many)]
    return Yard([COPY, Station(1, 1, rows), UNLIKE], [(0, 0, 1, 0), (0, 1, 2, 0), (1, 0, 2, 1)])


def some_far(dice):
    """A station copies its sign to two exits, alike at all standings, of which only some are ever come to."""
    second = dice.one_of("01")
    rows = [("1", [((sign, second), dice.below(2), 1) for sign in "01"])] * 3
    return Yard([Station(1, 2, rows)], [])


def some_patched(dice, most=3):
    while True:
        yard = dice.one_of([some_held, some_twofold, some_far, lambda dice: some_yard(dice, 2)])(dice)
        patch = some_patch(dice, yard, most)
        try:
            least_changing(yard, patch)
        except (errors.NotHeld, errors.TooMany):
            continue
        return yard, patch


class Patched(Cases):
    def test_the_documents_yard(self):
        self.same([word(BASE, TOLD, [0]), shown_by(BASE, TOLD, [1]), shown_by(BASE, TOLD, [0, 1])],
                  ["keeps", "01", "111"])
        self.same([least_changing(BASE, TOLD), greatest_keeping(BASE, TOLD), kept_exits(BASE, TOLD),
                   kept_exits(BASE, TOLD[:1])],
                  [[[1]], [[0]], [], [0]])

    def test_all_changes_are_done(self):
        self.assertEqual(patched(BASE, TOLD), slow_patched(BASE, TOLD))
        self.assertEqual(patched(BASE, TOLD[::-1]), patched(BASE, tuple(TOLD)))
        self.assertEqual(patched(patch=[(0, 0, "0", (("0",), 2, 1))], yard=BASE), BASE)
        dice = Dice(851)
        for _ in range(60):
            yard = some_yard(dice, 3)
            patch = some_patch(dice, yard, 6)
            self.assertEqual(patched(yard, patch), slow_patched(yard, patch))
            self.assertEqual(patched(yard, patch[::-1]), slow_patched(yard, patch))

    def test_nothing_is_looked_through(self):
        for yard in (OVERVIEW, counting(61), doubling(5)):
            place, row = all_places(yard)[0]
            self.assertEqual(patched(yard, [(*place, row)]), yard)
        filling = patched(COPIES, [(0, 0, "0", (("11",), 0, 9))])
        self.same(flows(filling, "001"), ["11111"])
        self.same(filling.stations[0].row(0, "0"), (("11",), 0, 9))

    def test_a_beginning_stays(self):
        yard = Yard([WIDE, PASS], [(0, 0, 1, 0)], ((2, 0), ("011",)))
        self.same(patched(yard, TOLD).begin, ((2, 0), ("011",)))


class Words(Cases):
    def test_some(self):
        yard, patch = BROKEN
        for part, told in [([], ("keeps", None)), ([0], ("keeps", None)), ([1], ("overfills", "0000")),
                           ([0, 1, 2], ("overfills", "0000")), ([2], ("changes", "00")),
                           ([0, 2], ("changes", "00"))]:
            self.same((word(yard, patch, part), shown_by(yard, patch, part)), told)
        self.same(word(part=(0,), patch=tuple(patch), yard=yard), "keeps")
        self.same(shown_by(part=[2], patch=patch, yard=yard), "00")
        self.same(overfilling(yard, patch), [part for part in ALL_PARTS[3] if 1 in part])

    def test_ticks_tell_nothing(self):
        self.same(word(BASE, [(0, 0, "0", (("0",), 2, 9))], [0]), "keeps")

    def test_what_shows_an_overfilling_part_is_not_what_shows_a_change(self):
        yard, patch = BROKEN
        other = patched(yard, patch[1:2])
        self.assertNotEqual(slow_flows(other, "0"), slow_flows(yard, "0"))
        self.same([max(len(text) for text in slow_rest(other, stream)[1]) for stream in ("000", "0000")], [3, 4])

    def test_many_by_all_short_streams(self):
        dice = Dice(852)
        counts = {"keeps": 0, "changes": 0, "overfills": 0}
        for _ in range(200):
            yard, patch = some_patched(dice)
            told = {}
            for part in ALL_PARTS[len(patch)]:
                changes = [patch[at] for at in part]
                found, stream = word(yard, patch, part), shown_by(yard, patch, part)
                told[tuple(part)] = found
                counts[found] += 1
                self.same(stream is None, found == "keeps")
                if stream is not None and len(stream) <= 6:
                    self.same((found, stream), slow_word(yard, changes, 6))
                elif stream is None:
                    self.same((found, stream), slow_word(yard, changes, 5))
            keeping = [part for part in ALL_PARTS[len(patch)] if told[tuple(part)] == "keeps"]
            changing = [part for part in ALL_PARTS[len(patch)] if told[tuple(part)] == "changes"]
            self.same(overfilling(yard, patch),
                      [part for part in ALL_PARTS[len(patch)] if told[tuple(part)] == "overfills"])
            self.same(least_changing(yard, patch),
                      [part for part in changing if not any(set(less) < set(part) for less in changing)])
            self.same(greatest_keeping(yard, patch),
                      [part for part in keeping if not any(set(part) < set(more) for more in keeping)])
        self.assertGreater(min(counts.values()), 20)

    def test_patches_of_six_changes(self):
        other = Station(1, 1, [("1", [(("1",), 0, 1), (("0",), 1, 1)]), ("1", [(("0",), 1, 1), (("1",), 0, 1)]),
                               ("1", [(("",), 2, 1)] * 2)])
        yard = Yard([other], [])
        patch = [(0, 2, "1", (("11",), 0, 1)), (0, 0, "0", (("1",), 1, 1)), (0, 1, "0", (("0",), 0, 1)),
                 (0, 2, "0", (("0",), 0, 1)),
                 (0, 0, "1", (("0",), 0, 1)), (0, 1, "1", (("1",), 1, 1))]
        words = {tuple(part): word(yard, patch, part) for part in ALL_PARTS[6]}
        self.same(len(words), 64)
        for part, told in words.items():
            self.same(told, slow_word(yard, [patch[at] for at in part], 4)[0])
        self.same(least_changing(yard, patch), [[1], [2], [4], [5]])
        self.same(greatest_keeping(yard, patch), [[0, 3]])

    def test_parts_that_keep_together_alone(self):
        # Each change turns the sign; both of them turn it and turn it back.
        yard = Yard([PASS, PASS], [(0, 0, 1, 0)])
        patch = [(station, 0, sign, ((turned,), 0, 1)) for station in (0, 1) for sign,
                 turned in (("0", "1"), ("1", "0"))]
        self.same([least_changing(yard, patch), greatest_keeping(yard, patch)], [[[0], [1], [2], [3]], [[0, 1, 2, 3]]])
        self.same(overfilling(yard, patch), [])
        # The whole keeps, and so does the empty part; what lies between changes.
        self.same([word(yard, patch, part) for part in ([], [0, 1], [0, 1, 2, 3])], ["keeps", "changes", "keeps"])

    def test_a_thousand_pairs_and_more(self):
        yard, patch = THOUSAND
        self.same([word(yard, patch, [0, 1, 2, 3]), kept_exits(yard, patch)], ["keeps", [0]])
        yard, patch = MORE_PAIRS
        for call in (word, shown_by):
            self.fails(errors.TooMany, PAIRS, call, yard, patch, [0, 1, 2])
            call(yard, patch, [2])
        for call in (least_changing, greatest_keeping, overfilling, kept_exits):
            self.fails(errors.TooMany, PAIRS, call, yard, patch)
        self.fails(errors.TooMany, PAIRS, lost_exits, yard, patch, patch[:1])
        self.fails(errors.TooMany, PAIRS, lost_exits, yard, patch[:1], patch)
        self.fails(errors.TooMany, PAIRS, lost_exits, yard, patch[:2], patch[2:])


class Merged(Cases):
    def test_sorted_and_equal_ones_once(self):
        more = (0, 1, "0", (("1",), 1, 1))
        self.same(merged(BASE, TOLD, [more]), [TOLD[0], more, TOLD[1]])
        self.same(merged(BASE, TOLD[::-1], [TOLD[1], more]), [TOLD[0], more, TOLD[1]])
        self.same(merged(other=TOLD, one=tuple(TOLD), yard=BASE), TOLD)
        for yard in (OVERVIEW, counting(61)):
            place, row = all_places(yard)[0]
            self.same(merged(yard, [(*place, row)], [(*place, row)]), [(*place, row)])

    def test_places_are_sorted_as_tuples(self):
        yard = Yard([COPY, PASS, UNLIKE], [(0, 0, 1, 0), (0, 1, 2, 0), (1, 0, 2, 1)])
        rows = [(*place, row) for place, row in all_places(yard)]
        self.same(merged(yard, rows[5:2:-1], rows[6:] + rows[:1]), rows[:1] + rows[3:])

    def test_clashes(self):
        other = [(0, 2, "1", (("0",), 0, 1)), (0, 1, "0", (("1",), 1, 1)), (0, 0, "0", (("0",), 0, 2))]
        self.fails(errors.PatchesClash, {"value": (0, 0, "0")}, merged, BASE, TOLD, other)
        self.fails(errors.PatchesClash, {"value": (0, 0, "0")}, merged, BASE, other, TOLD)
        self.fails(errors.PatchesClash, {"value": (0, 2, "1")}, merged, BASE, TOLD, other[:2])
        self.same(len(merged(BASE, TOLD, other[1:2])), 3)

    def test_six_changes_and_seven(self):
        yard = Yard([WIDE, WIDE], [(0, 0, 1, 0)])
        rows = [(*place, row) for place, row in all_places(yard)]
        self.same(merged(yard, rows[:3], rows[3:6]), rows[:6])
        self.same(merged(yard, rows[:4], rows[1:6]), rows[:6])
        self.same(merged(yard, rows[:6], rows[:6]), rows[:6])
        for call in (merged, lost_exits):
            self.fails(errors.TooMany, {"what": "changes", "limit": 6}, call, yard, rows[:4], rows[4:7])
            self.fails(errors.TooMany, {"what": "changes", "limit": 6}, call, yard, rows[:6], rows[6:])
            # A clash is told ahead of that.
            clash = [(*rows[0][:3], (("11",), 0, 1))] + rows[6:8]
            self.fails(errors.PatchesClash, {"value": rows[0][:3]}, call, yard, rows[:6], clash)

    def test_many(self):
        dice = Dice(861)
        counts = [0, 0]
        for _ in range(80):
            yard = some_yard(dice, 2)
            one, other = some_patch(dice, yard, 3), some_patch(dice, yard, 3)
            clashing = sorted(change[:3] for change in one for each in other if change[:3] == each[:3]
                              and change[3] != each[3])
            counts[bool(clashing)] += 1
            if clashing:
                self.fails(errors.PatchesClash, {"value": clashing[0]}, merged, yard, one, other)
            else:
                found = merged(yard, one, other)
                self.same(found, sorted(set(one + other), key=lambda change: change[:3]))
                self.assertEqual(merged(yard, other, one), found)
                self.assertEqual(patched(yard, found), slow_patched(yard, one + other))
        self.assertGreater(min(counts), 15)


class Exits(Cases):
    def test_some(self):
        self.same(kept_exits(TWO_WAYS, PAST_ONE), [1])
        self.same(kept_exits(patch=[(2, 0, "0", (("0",), 0, 1))], yard=TWO_WAYS), [0])
        self.same(kept_exits(TWO_WAYS, [(1, 0, "0", (("0",), 0, 7))]), [0, 1])
        self.same(kept_exits(TWO_WAYS, [(0, 0, "0", (("", "0"), 1, 1))]), [])
        self.same(kept_exits(THREE, [(1, 0, "1", (("", "1"), 0, 1))]), [0, 2])
        self.same(kept_exits(THREE, [(1, 0, "1", (("1", "11"), 0, 1)), (0, 0, "0", (("", "0"), 0, 1))]), [1])

    def test_an_exit_that_parts_behind_another_one(self):
        # The second exit parts at the first sign, the first one at the third.
        yard = Yard([COPY, Station(1, 1,
                                   [("1", [(("0",), k + 1, 1)] * 2)
                                    for k in range(3)] + [("1", [(("0",), 3, 1)] * 2)]), PASS],
                    [(0, 0, 1, 0), (0, 1, 2, 0)])
        patch = [(1, 2, "1", (("1",), 3, 1)), (2, 0, "0", (("1",), 0, 1))]
        self.same([kept_exits(yard, patch), kept_exits(yard, patch[:1]), kept_exits(yard, patch[1:])], [[], [1], [0]])
        self.same(shown_by(yard, patch, [0]), "001")

    def test_lost_exits(self):
        # Each of both keeps all exits, as the other row is never come to without it.
        far = Station(1, 1, [("1", [(("0",), 0, 1), (("1",), 0, 1)]), ("1", [(("0",), 1, 1), (("1",), 1, 1)])])
        yard = Yard([far], [])
        goes, turns = [(0, 0, "1", (("1",), 1, 1))], [(0, 1, "0", (("1",), 1, 1))]
        self.same([kept_exits(yard, goes), kept_exits(yard, turns)], [[0], [0]])
        self.same([lost_exits(yard, goes, turns), lost_exits(other=goes, one=turns, yard=yard)], [[(0, "10")]] * 2)
        self.same([lost_exits(yard, goes, goes), lost_exits(yard, turns, turns)], [[], []])
        self.same(lost_exits(yard, goes, [(0, 1, "1", (("",), 1, 1))]), [(0, "11")])
        # An exit that is not kept by both cannot be lost.
        self.same(lost_exits(yard, [(0, 0, "0", (("1",), 0, 1))], turns), [])

    def test_lost_exits_of_several(self):
        far = Station(1, 2, [("1", [(("0", "0"), 0, 1), (("1", "1"), 0, 1)]),
                             ("1", [(("0", "0"), 1, 1), (("1", "1"), 1, 1)])])
        yard = Yard([far], [])
        goes = [(0, 0, "0", (("0", "0"), 1, 1))]
        self.same(lost_exits(yard, goes, [(0, 1, "1", (("1", ""), 1, 1)), (0, 1, "0", (("", "0"), 1, 1))]),
                  [(0, "00"), (1, "01")])
        self.same(lost_exits(yard, goes, [(0, 1, "1", (("1", ""), 1, 1))]), [(1, "01")])
        self.same(lost_exits(yard, [(0, 0, "0", (("1", "0"), 1, 1))], [(0, 1, "1", (("", ""), 1, 1))]), [(1, "01")])

    def test_many(self):
        dice = Dice(862)
        lost = kept = 0
        for _ in range(300):
            yard, one = some_patched(dice, 2)
            if dice.below(2):
                yard = some_far(dice)
                one = some_patch(dice, yard, 1)
            other = [change for change in some_patch(dice, yard, 2) if change[:3] not in [each[:3] for each in one]]
            both = one + other
            if not other or any(word(yard, told, list(range(len(told)))) == "overfills" for told in (one, other, both)):
                continue
            streams = {}
            for name, told in (("one", one), ("other", other), ("both", both)):
                found = kept_exits(yard, told)
                changed = slow_patched(yard, told)
                for outlet in range(len(yard.exits)):
                    unlike = [stream for stream in all_texts(5)
                              if slow_flows(yard, stream)[outlet] != slow_flows(changed, stream)[outlet]]
                    streams[(name, outlet)] = unlike[:1]
                    self.assertFalse(unlike and outlet in found)
                if found == list(range(len(yard.exits))):
                    self.same(word(yard, told, list(range(len(told)))), "keeps")
                kept += len(found)
            told = lost_exits(yard, one, other)
            wanted = [outlet for outlet in range(len(yard.exits)) if outlet in kept_exits(yard, one)
                      and outlet in kept_exits(yard, other)
                      and outlet not in kept_exits(yard, both)]
            self.same([outlet for outlet, _ in told], wanted)
            for outlet, stream in told:
                lost += 1
                if len(stream) <= 5:
                    self.same([stream], streams[("both", outlet)])
        self.assertGreater(kept, 60)
        self.assertGreater(lost, 4)


class Errors(Cases):
    CALLS = [patched, least_changing, greatest_keeping, overfilling, kept_exits, lambda yard,
             patch: word(yard, patch, None),
             lambda yard, patch: shown_by(yard, patch, None), lambda yard, patch: merged(yard, patch, None),
             lambda yard, patch: lost_exits(yard, patch, None)]

    def test_patches(self):
        row = (("0",), 0, 1)
        wrong = odd_values() + [(), (0, 0, "0"), [0, 0, "0", row], (0, 0, "0", row, 1), (1, 0, "0", row),
                                (-1, 0, "0", row), (False, 0, "0", row),
                                (0, 3, "0", row), (0, False, "0", row), (0, 0, "", row), (0, 0, "00", row),
                                (0, 0, 0, row), (0, 0, None, row),
                                (0, 0, ["0"], row), (0, 0, "0", [("0",), 0, 1]), (0, 0, "0", (["0"], 0, 1)),
                                (0, 0, "0", (("000",), 0, 1)),
                                (0, 0, "0", (("0", "0"), 0, 1)), (0, 0, "0", (("0",), 3, 1)),
                                (0, 0, "0", (("0",), 0, 0)), (0, 0, "0", (("0",), 0, 10)),
                                (0, 0, "0", (("0",), 0, True)), (0, 0, "0", (("0",), False, 1)), (0, 0, "0", None),
                                (0, 0, "0", (("2",), 0, 1)),
                                (0, 0, "0", (("0",), 0))]
        for call in self.CALLS:
            for value in [value for value in odd_values()
                          if value not in ([], ())] + [[], (), "", 0, {TOLD[0]: 1}, [TOLD[0]] * 7, iter(TOLD)]:
                self.fails(errors.InvalidPatch, {"position": None}, call, BASE, value)
            for value in wrong:
                self.fails(errors.InvalidPatch, {"position": 1}, call, BASE, [TOLD[1], value, None])
            self.fails(errors.InvalidPatch, {"position": 2}, call, BASE,
                       [TOLD[0], TOLD[1], (*TOLD[0][:3], (("1",), 0, 1))])
            self.fails(errors.InvalidPatch, {"position": 1}, call, BASE, [TOLD[0], TOLD[0]])
            self.fails(errors.InvalidPatch, {"position": 0}, call, counting(61), [None])
        self.same(len(patched(BASE, [(*place, row) for place, row in all_places(BASE)]).stations), 1)

    def test_the_other_patch(self):
        for call in (merged, lost_exits):
            self.fails(errors.InvalidPatch, {"position": None}, call, BASE, TOLD, None)
            self.fails(errors.InvalidPatch, {"position": 1}, call, BASE, TOLD, [TOLD[0], None])
            self.fails(errors.InvalidPatch, {"position": 0}, call, other=[None, None], one=[None], yard=BASE)
            self.fails(errors.InvalidPatch, {"position": 1}, call, other=[None], one=[TOLD[0], None], yard=BASE)
        both_lines = Yard([COPY, UNLIKE], [(0, 0, 1, 0), (0, 1, 1, 1)])
        self.fails(errors.InvalidPatch, {"position": 0}, patched, both_lines, [(1, 0, "0", (("0",), 0, 1))])
        self.assertEqual(patched(both_lines, [(1, 0, "01", (("0",), 0, 1))]).stations[1].row(0, "01"), (("0",), 0, 1))

    def test_parts(self):
        wrong = [value for value in odd_values()
                 if value != []] + ["", "0", 0, [2], [-1], [1, 0], [0, 0], [True], [0, True], [False], ["0"], [[0]],
                                    [None], {0: 1}, {0}, [0, 1, 2], (1, 0)]
        for call in (word, shown_by):
            self.fails_on(errors.InvalidPart, wrong, lambda value: call(BASE, TOLD, value))
            self.fails_on(errors.InvalidPart, [[0, 2], None],
                          lambda value: call(OVERVIEW, [(0, 0, "0", (("0", "0"), 0, 1))], value))
            self.fails(errors.InvalidPart, {"value": [2]}, call, part=[2], patch=TOLD, yard=BASE)
            self.fails(errors.InvalidPatch, {"position": 0}, call, part=[2], patch=[None], yard=BASE)

    def test_looking_through_the_yard(self):
        def own(yard):
            place, row = all_places(yard)[0]
            return [(*place, row)]

        for call in (least_changing, greatest_keeping, overfilling, kept_exits):
            fails_looking(self, lambda yard: call(yard, own(yard)))
        for call in (word, shown_by):
            for part in ([], [0]):
                fails_looking(self, lambda yard: call(yard, own(yard), part))
        fails_looking(self, lambda yard: lost_exits(yard, own(yard), own(yard)))

    def test_looking_through_patched_yards(self):
        # Held, but of too many rests if the counters' way through the last sixteen begins at once.
        begun = counting(40)
        later = [(3, 1, "0", (("",), 0, 1)), (3, 1, "1", (("",), 0, 1))]
        shout = doubling(4)
        louder = [(4, 0, "0", (("00",), 0, 1)), (4, 0, "1", (("1",), 0, 1))]
        for yard, patch, error in [(shout, louder, {"what": "signs", "limit": 16})]:
            for call in (word, shown_by):
                self.fails(errors.TooMany, error, call, yard, patch, [0])
                call(yard, patch, [1])
            for call in (least_changing, greatest_keeping, overfilling, kept_exits):
                self.fails(errors.TooMany, error, call, yard, patch)
            self.fails(errors.TooMany, error, lost_exits, yard, patch[1:], patch[:1])
        self.same(word(begun, later, [0, 1]), "keeps")

    def test_parts_are_looked_at_sorted(self):
        # [0, 1] has too many rests, [1] gives too many signs; [0, 1] is looked at ahead of [1].
        yard, patch = self.two_faults()
        told = {tuple(part): self.fault(yard, patch, part) for part in ALL_PARTS[2]}
        self.same(told, {(): None, (0,): None, (0, 1): "rests", (1,): "signs"})
        for call in (least_changing, greatest_keeping, overfilling):
            self.fails(errors.TooMany, {"what": "rests", "limit": 60}, call, yard, patch)
            self.fails(errors.TooMany, {"what": "signs", "limit": 16}, call, yard, patch[::-1])

    def fault(self, yard, patch, part):
        try:
            word(yard, patch, part)
        except errors.TooMany as error:
            return error.what
        return None

    def two_faults(self):
        """The second change feeds a counter and what is loud, the first one turns off the loud."""
        gate = Station(1, 2, [("1", [(("", ""), 0, 1), (("", ""), 0, 1)])])
        yard = Yard([gate, TWICE, TWICE, TWICE, TWICE, *counting(64).stations[1:]],
                    [(0, 0, 1, 0), (0, 1, 5, 0), (1, 0, 2, 0), (2, 0, 3, 0), (3, 0, 4, 0), (5, 0, 6, 0), (6, 0, 7, 0)])
        return yard, [(1, 0, "0", (("",), 0, 1)), (0, 0, "1", (("00", "0"), 0, 1))]

    def test_not_held_by_one_then_other_then_merge(self):
        yard, patch = BROKEN
        stream = shown_by(yard, patch, [1])
        for call in (lambda told: kept_exits(yard, told), lambda told: lost_exits(yard, told, told),
                     lambda told: lost_exits(yard, patch[:1], told), lambda told: lost_exits(yard, told, patch[:1])):
            self.fails(errors.NotHeld, {"stream": stream}, call, patch[1:2])
        overfilled = [[(1, 0, "0", (("00",), 0, 1))], [(1, 0, "1", (("11",), 0, 1))]]
        streams = [shown_by(yard, told, [0]) for told in overfilled]
        self.same(len(set(streams)), 2)
        self.fails(errors.NotHeld, {"stream": streams[0]}, lost_exits, yard, overfilled[0], overfilled[1])
        self.fails(errors.NotHeld, {"stream": streams[1]}, lost_exits, yard, overfilled[1], overfilled[0])

    def test_a_merge_that_is_not_held(self):
        # Each of both lets one way run slow; only together they come there.
        far = Station(1, 2, [("1", [(("0", "0"), 0, 1), (("1", "1"), 0, 1)]),
                             ("1", [(("0", "0"), 1, 1), (("1", "1"), 1, 1)])])
        yard = Yard([far, UNLIKE], [(0, 0, 1, 0), (0, 1, 1, 1)])
        goes, fills = [(0, 0, "1", (("1", "1"), 1, 1))], [(0, 1, "0", (("", "0"), 1, 1))]
        self.same([kept_exits(yard, goes), kept_exits(yard, fills)], [[0], [0]])
        self.fails(errors.NotHeld, {"stream": "10000"}, lost_exits, yard, goes, fills)
        self.same([word(yard, goes + fills, [0, 1]), shown_by(yard, goes + fills, [0, 1])], ["overfills", "10000"])

    def test_nothing_is_changed(self):
        patch, part = [*TOLD], [0, 1]
        for call in (least_changing, greatest_keeping, overfilling, kept_exits, patched):
            call(BASE, patch)
        word(BASE, patch, part)
        found = merged(BASE, patch, patch)
        found.clear()
        lost_exits(BASE, patch, patch).clear()
        self.same([patch, part], [TOLD, [0, 1]])
        self.assertEqual(BASE, Yard([WIDE], []))
        for call in (least_changing, greatest_keeping):
            rows = call(BASE, patch)
            before = repr(rows)
            rows[0].append(5)
            rows.clear()
            self.assertEqual(repr(call(BASE, patch)), before)
        self.same(word(BASE, with_tuples(patch), (0,)), "keeps")
        self.same([kept_exits(EATING, [(0, 0, "0", (("",), 0, 3))]), few([1], 1)], [[0], [1]])


if __name__ == "__main__":
    unittest.main()
