"""[92]: claims, contrary claims, and papers, judged by the functions of the table."""

import unittest

from flowyard import alarms, claims, errors, forever, needs, pace, rests, rings, room, runs, same, swaps, taps, watch
from flowyard.claims import WORDS, contrary, is_claim, is_paper, is_true, paper_of
from flowyard.wishes import Wish
from flowyard.yards import Station, Yard
from helper import EATS, OVERVIEW, PASS, ROW, SPLIT, TURN, TWICE, Cases, Dice, odd_values
from some_held import some_held, some_two
from some_taps import HELD, giving
from some_wishes import LAST, some_wish
from some_yards import COPIES, EATING, HELD_BY_TWO, HOLDS, LATE, SLOW, STOPS, TURNING, TWO, counting, doubling
from spoiling import few, wrong_kinds
from test_kept_images import FAR
from test_swaps import BASE, PARITY, WIDE
from test_watch import HALVES, TWO_EXITS

TABLE = [("ahead", "free"), ("held", "overfilled"), ("same", "parted"), ("same for ever", "parted for ever"),
         ("enough", "still"),
         ("enough for", "stuck"), ("in time", "late"), ("live", "silent"), ("granted", "broken"), ("passed", "barred"),
         ("sure", "unsure"),
         ("twins", "told apart"), ("unseen", "seen")]

# Parts by the first word of each line, with whether its claim is true.
TOLD = [
    ("ahead", (ROW, "01", (0, 0), (1, 1)), True), ("ahead", (ROW, "01", (1, 0), (1, 1)), True),
    ("ahead", (ROW, "01", (0, 1), (1, 0)), False),
    ("ahead", (ROW, "01", (1, 1), (0, 0)), False),
    ("held", (OVERVIEW, 3), False), ("held", (HELD_BY_TWO, 0), False), ("held", (HELD_BY_TWO, 1), True),
    ("held", (COPIES, 0), True), ("held", (OVERVIEW, 0), False),
    ("same", (COPIES, ROW), True), ("same", (COPIES, HOLDS), False), ("same", (TWO_EXITS, TWO_EXITS), True),
    ("same", (LATE, COPIES), False),
    ("same for ever", (COPIES, 0, HOLDS, 0), True), ("same for ever", (TWO_EXITS, 0, TWO_EXITS, 1), False),
    ("same for ever", (COPIES, 0, LATE, 0), False),
    ("enough", (HELD_BY_TWO, (1, 2, 2)), True), ("enough", (HELD_BY_TWO, (1, 1, 3)), False),
    ("enough", (COPIES, ()), True),
    ("enough for", (HELD_BY_TWO, (1, 1, 3), "0"), True), ("enough for", (HELD_BY_TWO, (1, 1, 3), "00"), False),
    ("enough for", (COPIES, (), "0" * 60), True),
    ("in time", (SLOW, 3, None, 3), True), ("in time", (SLOW, 3, None, 2), False),
    ("in time", (SLOW, 2, None, 100), False), ("in time", (TWO, 2, (2,), 3), True),
    ("in time", (TWO, 2, None, 2), False), ("in time", (TWO, 1, (2,), 50), False),
    ("live", (HALVES, 0), True), ("live", (EATING, 0), False), ("live", (STOPS, 0), False),
    ("live", (TWO_EXITS, 1), True),
    ("granted", (COPIES, 0, LAST), False), ("granted", (COPIES, 0, Wish(LAST.goals(), LAST.lots())), True),
    ("granted", (EATING, 0, LAST), True),
    ("passed", (COPIES, 0, LAST, [0]), True), ("passed", (COPIES, 0, LAST, (0, 1)), True),
    ("passed", (STOPS, 0, LAST, [1]), False),
    ("sure", (HELD, 0, [1], "1"), True), ("sure", (HELD, 0, [0], "0"), False),
    ("sure", (HELD, 0, (0, 1), "0" * 8), True),
    ("twins", (COPIES, 0, TURNING, 0), True), ("twins", (COPIES, 0, HELD, 0), False),
    ("twins", (giving("01"), 0, giving("10"), 0), False),
    ("unseen", (BASE, 0, WIDE, 0, 2), True), ("unseen", (BASE, 0, WIDE, 0, 1), False),
    ("unseen", (FAR, 0, TURN, 1, 0), True), ("unseen", (BASE, 0, WIDE, 1, 0), False),
]


def is_full_with(yard, sizes, stream, value):
    return isinstance(value, (list, tuple)) and runs.is_run(yard, stream, value, sizes) and runs.is_full(yard, stream, value)


def is_late(yard, apart, sizes, bound, value):
    mean = pace.ring_mean(yard, value, sizes)
    return pace.is_later(yard, apart, bound, value, sizes) or mean is not None and mean[0] > apart * mean[1]


def is_heard_of_one(one, outlet, other, second, value):
    if not isinstance(value, str) or set(value) - {"0", "1"}:
        return False
    return taps.can_be_heard(one, outlet, value) != taps.can_be_heard(other, second, value)


JUDGES = {
    "ahead": needs.is_chain, "free": needs.is_run_against, "held": rests.is_held_paper,
    "overfilled": rests.is_overfilling,
    "same": same.is_same_paper, "parted": same.is_parting, "same for ever": forever.is_ahead_list,
    "parted for ever": forever.is_endless_parting,
    "enough": room.is_room_list, "still": room.is_standstill, "enough for": is_full_with, "stuck": rings.is_reason,
    "in time": lambda yard, apart, sizes, bound, value: pace.are_heights(yard, apart, bound, value, sizes),
    "late": is_late,
    "live": watch.are_ranks, "silent": watch.is_silent_stream, "granted": watch.is_kept_paper,
    "broken": watch.is_breaker,
    "passed": watch.is_witness, "barred": watch.are_bars, "sure": alarms.is_sure_paper, "unsure": alarms.is_unsure,
    "twins": taps.are_twins, "told apart": is_heard_of_one, "unseen": swaps.is_kept_paper, "seen": swaps.is_break,
}

# What is no claim, by what is wrong.
NO_CLAIMS = [
    (), ("ahead",), ("ahead", ROW, "01", (0, 0)), ("ahead", ROW, "01", (0, 0), (1, 1), None),
    ("ahead", ROW, "01", (0, 0), (0, 0)), ("ahead", ROW, "01", (1, 1), (1, 1)),
    ("free", ROW, "01", (0, 0), (0, 0)), ("free", ROW, "01", (0, 5), (0, 0)), ("ahead", ROW, "2", (0, 0), (1, 1)),
    ("ahead", ROW, "01", (0, 0), [1, 1]),
    ("ahead", None, "01", (0, 0), (1, 1)), ("ahead", PASS, "01", (0, 0), (1, 1)),
    ("free", doubling(5), "00", (0, 0), (1, 0)), ["ahead", ROW, "01", (0, 0), (1, 1)],
    ("held", COPIES, 4), ("held", COPIES, -1), ("held", COPIES, True), ("overfilled", COPIES, None), ("held", COPIES),
    ("held", COPIES, 0, 0), ("held", [COPIES], 0),
    ("held", counting(61), 3),
    ("same", COPIES, TWO_EXITS), ("same", COPIES, OVERVIEW), ("same", COPIES, None), ("parted", None, COPIES),
    ("parted", OVERVIEW, COPIES), ("same", COPIES),
    ("same for ever", COPIES, 1, HOLDS, 0), ("same for ever", COPIES, 0, HOLDS, 1),
    ("parted for ever", COPIES, 0, "HOLDS", 0), ("same for ever", COPIES, HOLDS),
    ("same for ever", COPIES, 0, counting(61), 0), ("same for ever", COPIES, 0, 0, HOLDS),
    ("enough", HELD_BY_TWO, None), ("enough", HELD_BY_TWO, (1, 1)), ("still", HELD_BY_TWO, (0, 1, 1)),
    ("still", None, (1,)), ("enough", ROW, [1]),
    ("enough for", ROW, (1,), None), ("enough for", ROW, (1,), "2"), ("stuck", ROW, None, "0"),
    ("enough for", ROW, (1,), "0" * 31), ("enough for", ROW, "0", (1,)),
    ("stuck", COPIES, (), "0" * 61), ("enough for", ROW, (1,)),
    ("in time", SLOW, 3, None, -1), ("in time", SLOW, 3, None, True), ("late", SLOW, 3, None, None),
    ("in time", SLOW, -1, None, 3), ("in time", SLOW, 3, (1,), 3),
    ("late", SLOW, None, 3, None), ("in time", SLOW, 3, 3), ("in time", OVERVIEW, 3, None, 3),
    ("late", "SLOW", 3, None, 3), ("in time", TWO, 2, (1,), 3),
    ("live", COPIES, 1), ("live", OVERVIEW, 0), ("silent", None, 0), ("live", COPIES), ("silent", COPIES, 0, 0),
    ("live", COPIES, True),
    ("granted", COPIES, 0, None), ("granted", COPIES, 0, LAST.goals()), ("broken", COPIES, 1, LAST),
    ("broken", COPIES, LAST, 0), ("granted", LAST, 0, COPIES),
    ("granted", counting(61), 0, LAST), ("granted", COPIES, 0),
    ("passed", COPIES, 0, LAST, [2]), ("passed", COPIES, 0, LAST, []), ("barred", COPIES, 0, [0], LAST),
    ("barred", COPIES, 1, LAST, [0]), ("passed", COPIES, 0, None, [0]),
    ("passed", OVERVIEW, 0, LAST, [0]), ("passed", COPIES, 0, LAST),
    ("sure", HELD, 0, [1], "0" * 9), ("unsure", HELD, 0, [1], "0" * 9), ("sure", HELD, 0, [1], "10"),
    ("unsure", HELD, 0, [1], "10"), ("sure", HELD, 0, [1, 1], "1"),
    ("sure", HELD, 0, None, "1"), ("sure", HELD, 1, [1], "1"), ("sure", HELD, 0, [1], None),
    ("sure", counting(25), 0, [1], ""), ("unsure", HELD, 0, "1", [1]),
    ("twins", COPIES, 0, COPIES, 1), ("twins", COPIES, 1, COPIES, 0), ("told apart", COPIES, 0, None, 0),
    ("told apart", COPIES, 0, counting(25), 0), ("twins", COPIES, COPIES),
    ("unseen", BASE, 0, None, 0, 0), ("unseen", BASE, 1, WIDE, 0, 0), ("unseen", BASE, 0, WIDE, 2, 0),
    ("seen", BASE, 0, WIDE, 0, 3), ("seen", BASE, 0, SPLIT, 0, 0),
    ("unseen", None, 0, WIDE, 0, 0), ("unseen", OVERVIEW, 1, PASS, 0, 0), ("unseen", BASE, 0, WIDE, 0),
    ("unseen", WIDE, 0, BASE, 0, 0),
    ("Ahead", ROW, "01", (0, 0), (1, 1)), ("kept", COPIES, 0), ("", COPIES), (None, COPIES, 0), (0, COPIES),
    (["live"], COPIES, 0), (("live",), COPIES, 0), (b"live", COPIES, 0),
    "live", ("live",), ("live ", COPIES, 0),
]


def told_claims():
    """All claims of both words with whether they are true."""
    seconds = dict(TABLE)
    return [((word if holds else seconds[word], *parts), holds == truth) for word, parts,
            truth in TOLD for holds in (True, False)]


class Words(Cases):
    def test_the_table(self):
        self.same(WORDS, TABLE)
        self.same(len({word for row in WORDS for word in row}), 26)
        self.same(sorted(JUDGES), sorted(word for row in WORDS for word in row))

    def test_the_documents_claim(self):
        turn = Station(1, 1, [("1", [(("1",), 0, 1), (("0",), 0, 2)])])
        slow = ("in time", Yard([turn], []), 2, None, 1)
        self.same([is_true(slow), contrary(slow)[0], is_paper(contrary(slow), "1"), is_paper(contrary(slow), "00")],
                  [False, "late", True, False])


class Claims(Cases):
    def test_true_and_not(self):
        for claim, truth in told_claims():
            with self.subTest(claim=claim[0], parts=repr(claim[2:])):
                self.assertIs(is_claim(claim), True)
                self.assertIs(is_true(claim), truth)
                self.assertIs(is_true(claim=contrary(claim=claim)), not truth)

    def test_contrary_ones(self):
        seconds = dict(TABLE)
        firsts = {second: first for first, second in TABLE}
        for claim, _ in told_claims():
            found = contrary(claim)
            self.same(found[0], seconds.get(claim[0]) or firsts[claim[0]])
            self.assertEqual(found[1:], claim[1:])
            self.assertEqual(contrary(found), claim)
            self.same([type(part) for part in found], [type(part) for part in claim])

    def test_lists_of_contrary_ones_are_new(self):
        for claim in [("passed", COPIES, 0, LAST, [0]), ("barred", STOPS, 0, LAST, [1]), ("sure", HELD, 0, [1], "1"),
                      ("unsure", HELD, 0, [0, 5], "0")]:
            before = repr(claim)
            found = contrary(claim)
            for part in found:
                if isinstance(part, list):
                    part.append(99)
            self.assertEqual(repr(claim), before)
            self.assertEqual(contrary(contrary(claim)), claim)

    def test_papers(self):
        for claim, truth in told_claims():
            with self.subTest(claim=claim[0], parts=repr(claim[2:])):
                paper = paper_of(claim)
                self.same(paper is not None, truth)
                if truth:
                    self.assertIs(is_paper(claim, paper), True)
                    self.assertIs(JUDGES[claim[0]](*claim[1:], paper), True)
                    self.assertIs(is_paper(contrary(claim), paper), JUDGES[contrary(claim)[0]](*claim[1:], paper))
                    self.assertEqual(repr(paper_of(claim=claim)), repr(paper))
                    for value in few(wrong_kinds(paper), 12):
                        self.assertIs(is_paper(claim, value), JUDGES[claim[0]](*claim[1:], value))
                for value in odd_values() + [[], (), 0, "", "0", ("", "0"), [(0, 0)], [0]]:
                    self.assertIs(is_paper(value=value, claim=claim), JUDGES[claim[0]](*claim[1:], value))

    def test_claims_that_are_not_true_have_no_paper(self):
        papers = [paper_of(claim) for claim, truth in told_claims() if truth]
        for claim, truth in told_claims():
            if not truth:
                for value in few(papers, 12) + [paper_of(contrary(claim))]:
                    self.assertIs(is_paper(claim, value), False)

    def test_late_ones_have_two_kinds_of_papers(self):
        late = ("late", SLOW, 2, None, 3)
        for value, wanted in [(("", "1", [("free", 0)] * 2), True), (("", "10", [("free", 0)] * 3), False),
                              ("1" * 2, True), ("1", False), ("0", False),
                              (("", "110", [("free", 0)] * 4), True)]:
            self.assertIs(is_paper(late, value), wanted)
        self.assertIs(is_paper(("late", SLOW, 3, None, 2), ("", "1", [("free", 0)] * 2)), False)
        self.assertIs(is_paper(("late", SLOW, 3, None, 2), "1"), True)

    def test_runs_that_are_full_without_sizes(self):
        claim = ("enough for", HELD_BY_TWO, (1, 1, 3), "0")
        for value, wanted in [(runs.full_run(HELD_BY_TWO, "0"), True), ((0, 1), True), ([0], False), ([], False),
                              ([0, 1, 2], False), ("01", False), ([1, 0], False)]:
            self.assertIs(is_paper(claim, value), wanted)
        stuck = ("stuck", HELD_BY_TWO, (1, 1, 3), "00")
        self.assertIs(is_paper(contrary(stuck), [0, 0, 1, 1, 2, 2]), False)
        self.assertIs(is_paper(contrary(stuck), [0, 1]), False)
        self.assertIs(is_paper(stuck, ("ring", [(2, 0), (1, 1), (0, 1)])), True)

    def test_texts_that_are_heard_of_just_one(self):
        claim = ("told apart", COPIES, 0, HELD, 0)
        for value, wanted in [("10", True), ("0", False), ("", False), ("110", True), (None, False), ("2", False),
                              (["1", "0"], False), ("10" * 1000, True)]:
            self.assertIs(is_paper(claim, value), wanted)

    def test_papers_that_cannot_be_judged_are_none(self):
        loud = Yard([TWICE] * 5 + [EATS], [(k, 0, k + 1, 0) for k in range(5)])
        silent = ("unseen", Yard([EATS, *loud.stations], [(k, 0, k + 1, 0) for k in range(6)]), 0, TWICE, 0, 0)
        self.fails(errors.TooMany, {"what": "beats", "limit": 20000}, swaps.is_break, *silent[1:], ("0" * 1000, 0))
        self.assertIs(is_paper(contrary(silent), ("0" * 1000, 0)), False)

    def test_many(self):
        dice = Dice(921)
        counts = {}
        for _ in range(40):
            one, other = some_two(dice)
            wish = some_wish(dice)
            yard = some_held(dice)
            drawn = [("same", one, other), ("same for ever", one, 0, other, 0), ("twins", one, 0, other, 0),
                     ("live", yard, 0), ("granted", yard, 0, wish),
                     ("passed", yard, 0, wish, dice.one_of(wish.lots())),
                     ("sure", yard, 0, [dice.below(3)], dice.text(2)),
                     ("unseen", yard, 0, dice.one_of([PASS, PARITY, yard.stations[0]]),
                      dice.below(len(yard.stations[0])), 0),
                     ("in time", yard, 1 + dice.below(3), None, dice.below(5)), ("held", yard, dice.below(4)),
                     ("enough", yard, (1,) * len(yard.pipes)),
                     ("enough for", yard, (1,) * len(yard.pipes), dice.text(4))]
            for claim in drawn:
                if is_claim(claim):
                    truth = is_true(claim)
                    told = claim if truth else contrary(claim)
                    counts[told[0]] = counts.get(told[0], 0) + 1
                    self.assertIs(is_paper(told, paper_of(told)), True)
                    self.assertIs(JUDGES[told[0]](*told[1:], paper_of(told)), True)
                    self.same(paper_of(contrary(told)), None)
                    self.assertIs(is_true(contrary(told)), False)
        self.assertGreater(len(counts), 18)


class NoClaims(Cases):
    def test_any_value(self):
        for value in NO_CLAIMS + odd_values() + [0, [], ("live", COPIES, 0, None), [*TABLE[0]], ROW]:
            with self.subTest(value=repr(value)):
                self.assertIs(is_claim(value), False)

    def test_elements_spoilt(self):
        for claim, _ in few(told_claims(), 30):
            for at in range(1, len(claim)):
                for other in (None, "x", [], object()):
                    # Neither sizes nor rests need be told.
                    let = at == 3 and (other is None and claim[0] in ("in time", "late")
                                       or other == [] and claim[0] in ("sure", "unsure"))
                    if other != claim[at] and not let:
                        self.assertIs(is_claim((*claim[:at], other, *claim[at + 1:])), False)
            self.assertIs(is_claim(list(claim)), False)
            self.assertIs(is_claim(claim[:-1]), False)
            self.assertIs(is_claim(claim + (0,)), False)

    def test_errors(self):
        for value in NO_CLAIMS + odd_values() + [0, []]:
            for call in (is_true, contrary, paper_of, lambda claim: is_paper(claim, None),
                         lambda claim: is_paper(claim, "0")):
                self.fails(errors.InvalidClaim, {"value": value}, call, value)
        self.fails(errors.InvalidClaim, {"value": None}, is_paper, value=None, claim=None)

    def test_the_edges(self):
        self.assertIs(is_claim(("enough for", COPIES, (), "0" * 60)), True)
        self.assertIs(is_claim(("enough for", COPIES, (), "0" * 61)), False)
        self.assertIs(is_claim(("sure", HELD, 0, [1], "0" * 8)), True)
        self.assertIs(is_claim(("sure", HELD, 0, [1], "0" * 9)), False)
        self.assertIs(is_claim(("ahead", COPIES, "0" * 60, (0, 0), (0, 1))), True)
        self.assertIs(is_claim(("ahead", COPIES, "0" * 61, (0, 0), (0, 1))), False)
        self.assertIs(is_claim(("held", COPIES, 3)), True)
        # A yard that is not held may be claimed not to be so, but nothing else of it.
        self.same([is_true(("overfilled", OVERVIEW, 3)), is_claim(("live", OVERVIEW, 0))], [True, False])
        self.same(claims.WORDS, TABLE)

    def test_nothing_is_changed(self):
        for claim, truth in told_claims():
            before = repr(claim)
            if truth:
                paper = paper_of(claim)
                told = repr(paper)
                is_paper(claim, paper)
                self.assertEqual(repr(paper), told)
                if isinstance(paper, (list, dict)):
                    paper.clear()
                self.assertEqual(repr(paper_of(claim)), told)
            self.assertEqual(repr(claim), before)


if __name__ == "__main__":
    unittest.main()
