"""[91]: written forms of stations, yards, tables and terms, and what is read back."""

import unittest

from flowyard import errors
from flowyard.same import least_table
from flowyard.texts import read_station, read_table, read_term, read_yard, written
from flowyard.yards import Station, Yard
from helper import (BY_TURNS, COPY, HALF, OVERVIEW, PASS, ROW, SPLIT, UNLIKE, Cases, Dice, odd_values, some_station,
                    some_yard)
from slow_texts import slow_station, slow_table, slow_term, slow_yard
from some_held import some_held
from some_terms import EIGHT_NOTS, FIVE_INS, NINE, no_terms, some_term
from some_yards import BEGUN, COPIES, HELD_BY_TWO, HOLDS, counting
from spoiling import with_tuples

SLOW_TURN = Station(1, 1, [("1", [(("1",), 0, 1), (("0",), 0, 2)])])
TABLE = (("",), [[(0, ("0",)), (0, ("",))]])
WIDE = Station(2, 2, [("12", [(("", "01"), 2, 9), (("0", "1"), 0, 1), (("11", ""), 1, 2), (("", ""), 2, 3)]),
                      ("2", [(("1", "00"), 1, 4), (("", ""), 0, 5)]),
                      ("1", [(("0", "0"), 0, 1), (("1", "1"), 2, 1)])])


def some_table(dice, exits):
    many = 1 + dice.below(4)
    return (tuple(dice.text(3) for _ in range(exits)),
            [[(dice.below(many), tuple(dice.text(3) for _ in range(exits))) for _ in "01"] for _ in range(many)])


def lines_of(text):
    return text.split("\n")[:-1]


def joined_lines(lines):
    return "".join(line + "\n" for line in lines)


class TextCases(Cases):
    def wrong_at(self, call, text, line):
        self.fails(errors.InvalidLines, {"line": line}, call, text)


class Written(Cases):
    def test_the_documents_forms(self):
        self.same(written(Yard([SLOW_TURN, SLOW_TURN], [(0, 0, 1, 0)])),
                  "station 1 1\nstanding 1 1 0 1 0 0 2\nstation 1 1\nstanding 1 1 0 1 0 0 2\npipe 0 0 1 0\nbegin 0 0\ncontents -\n")
        self.same([read_term("by(0110,in,late(1,in))\n"), written(TABLE)],
                  [("by", "0110", "in", ("late", "1", "in")), "first -\nplace 0 0 0 -\n"])

    def test_stations(self):
        self.same(written(SLOW_TURN), "station 1 1\nstanding 1 1 0 1 0 0 2\n")
        self.same(written(HALF), "station 1 1\nstanding 1 - 1 1 - 1 1\nstanding 1 0 0 1 1 0 1\n")
        self.same(written(WIDE),
                  "station 2 2\nstanding 12 - 01 2 9 0 1 0 1 11 - 1 2 - - 2 3\nstanding 2 1 00 1 4 - - 0 5\n"
                                 "standing 1 0 0 0 1 1 1 2 1\n")
        self.same(written(BY_TURNS), "station 2 1\nstanding 1 0 1 1 1 1 1\nstanding 2 0 0 1 1 0 1\n")

    def test_yards(self):
        self.same(written(COPIES), "station 1 1\nstanding 1 0 0 1 1 0 1\nbegin 0\ncontents\n")
        self.same(written(BEGUN),
                  "station 1 1\nstanding 1 0 0 1 1 0 1\n" * 2 + "pipe 0 0 1 0\nbegin 0 0\ncontents 011\n")
        three = Yard([COPY, HALF, UNLIKE], [(1, 0, 2, 0), (0, 0, 1, 0), (0, 1, 2, 1)], ((0, 1, 0), ("", "01", "1")))
        self.same(lines_of(written(three))[-5:], ["pipe 0 0 1 0", "pipe 0 1 2 1", "pipe 1 0 2 0", "begin 0 1 0",
                                                  "contents - 01 1"])

    def test_tables_and_terms(self):
        self.same(written((("01", "", "1"), (((1, ("", "0", "")), (0, ("1", "1", "11"))),
                                             [(0, ("", "", "")), (1, ("0", "", ""))]))),
                  "first 01 - 1\nplace 1 - 0 - 0 1 1 11\nplace 0 - - - 1 0 - -\n")
        self.same([written("in"), written(("not", "in")), written(("late", "0", "in")),
                   written(("by", "0110", "in", ("not", "in"))), written(("then", ("keep", "in", "in"), "in"))],
                  ["in\n", "not(in)\n", "late(0,in)\n", "by(0110,in,not(in))\n", "then(keep(in,in),in)\n"])

    def test_many_by_a_second_writer_and_back(self):
        dice = Dice(911)
        for _ in range(80):
            yard = some_yard(dice, 4)
            station = some_station(dice, 1 + dice.below(2), 1 + dice.below(2))
            table = some_table(dice, 1 + dice.below(3))
            term = some_term(dice, 9)
            for entry, text, read in [(yard, slow_yard(yard), read_yard),
                                      (station, slow_station(station), read_station),
                                      (table, slow_table(table), read_table), (term, slow_term(term), read_term)]:
                self.same(written(entry), text)
                self.assertEqual(read(text), entry)
                self.assertEqual(repr(read(lines=text)), repr(entry))
                self.same(written(entry=read(text)), text)
            self.same(written(with_tuples(table)), slow_table(table))
        for yard in (OVERVIEW, HELD_BY_TWO, counting(61)):
            self.assertEqual(read_yard(written(yard)), yard)
            self.assertEqual(read_yard(slow_yard(yard)), yard)
        for term in NINE + [EIGHT_NOTS, FIVE_INS]:
            self.same(read_term(written(term)), term)
        for yard in [some_held(dice) for _ in range(20)] + [HOLDS]:
            self.assertEqual(read_table(written(least_table(yard))), least_table(yard))

    def test_sixty_places_and_sixty_one(self):
        places = [[(at, ("0",)), (59, ("",))] for at in range(60)]
        self.same(written((("",), places)), slow_table((("",), places)))
        self.same(read_table(slow_table((("",), places))), (("",), places))
        self.fails(errors.InvalidEntry, {"value": (("",), places + [[(0, ("",)), (0, ("",))]])}, written,
                   (("",), places + [[(0, ("",)), (0, ("",))]]))

    def test_no_other_entries(self):
        exits = ("", "", "", "")
        wrong = [value for value in no_terms() if not isinstance(value, (Station, Yard))] + [
            (exits, [[(0, exits), (0, exits)]]), ((), [[(0, ()), (0, ())]]), (("",), []), (("",), [[(0, ("",))]]),
            (("",), [[(1, ("",)), (0, ("",))]]),
            (["",], [[(0, ("",)), (0, ("",))]]), (("",), [[(False, ("",)), (0, ("",))]]),
            [("",), [[(0, ("",)), (0, ("",))]]], (("2",), [[(0, ("",)), (0, ("",))]]),
            (("",), [[(0, ("", "")), (0, ("",))]]), (("",), [[[0, ("",)], (0, ("",))]]), [PASS], repr(PASS), "in\n",
            ROW.stations, ("not", EIGHT_NOTS)]
        for value in wrong:
            with self.subTest(value=repr(value)):
                self.fails(errors.InvalidEntry, {"value": value}, written, value)
        self.fails(errors.InvalidEntry, {"value": None}, written, entry=None)


class ReadCases(TextCases):
    ALL = [(read_station, written(WIDE)), (read_station, written(HALF)), (read_yard, written(OVERVIEW)),
           (read_yard, written(COPIES)), (read_yard, written(BEGUN)),
           (read_table, written(least_table(HOLDS))),
           (read_table, written((("", "01"), [[(0, ("", "1")), (0, ("0", ""))]]))), (read_term, written(FIVE_INS)),
           (read_term, "in\n"), (read_yard, written(Yard([SPLIT, PASS, BY_TURNS],
                                                         [(0, 0, 2, 0), (0, 1, 1, 0), (1, 0, 2, 1)],
                                                         ((1, 0, 1), ("01", "", "111")))))]

    def test_what_is_no_string(self):
        for call in (read_station, read_yard, read_table, read_term):
            for value in [value for value in odd_values()
                          if not isinstance(value, str)] + [0, [], (), ["in\n"], b"in\n", PASS]:
                self.wrong_at(call, value, 0)
            self.fails(errors.InvalidLines, {"line": 0}, call, lines=None)

    def test_cut_off(self):
        for call, text in self.ALL:
            for cut in range(len(text)):
                # Stations and tables may end behind each line but the first one: then only goals can be lacking.
                if call in (read_station, read_table) and text[:cut].endswith("\n") and text[:cut].count("\n") > 1:
                    continue
                self.wrong_at(call, text[:cut], text[:cut].count("\n") + 1)

    def test_more_at_the_end(self):
        for call, text in self.ALL:
            for more in ("\n", "x", "x\n", " ", " \n", "-\n", "standing", "in\n\n", "contents\n"):
                self.wrong_at(call, text + more, text.count("\n") + 1)

    def test_each_line_spoilt(self):
        for call, text in self.ALL:
            lines = lines_of(text)
            for at, line in enumerate(lines):
                words = line.split(" ")
                spoilt = ["", " ", "x", " " + line, line + " ", line.replace(" ", "  ", 1) + " " * (" " not in line),
                          line.upper(), line + " 0", line + " -", line + ","]
                spoilt += [" ".join(words[:-1]), " ".join(words[1:]), line[:-1] + "x", "-" + line]
                for place, word in enumerate(words):
                    if word.isdigit() and call != read_term:
                        spoilt += [" ".join(words[:place] + [other] + words[place + 1:])
                                   for other in ("", "+" + word, "x", word + ".", "-1")]
                for other in spoilt:
                    # A first line of a table may have a text more, or one less.
                    more_or_less = (line + " -", line + " 0", " ".join(words[:-1]) if len(words) > 2 else line)
                    if other == line or call == read_table and at == 0 and other in more_or_less:
                        continue
                    with self.subTest(line=other, of=line):
                        told = joined_lines(lines[:at] + [other] + lines[at + 1:])
                        self.wrong_at(call, told, at + 1)

    def test_no_needless_zeros(self):
        for call, text in [(read_station, "station 1 1\nstanding 1 0 {} {} 1 0 1\n"),
                           (read_table, "first -\nplace {} - {} -\n")]:
            call(text.format("0", "1" if call == read_station else "0"))
            for goal, other in [("00", "1"), ("0", "01"), ("0", "00"), ("000", "1")]:
                self.wrong_at(call, text.format(goal, other), 2)
        for line in ("station 01 1", "station 1 01", "station 00 1"):
            self.wrong_at(read_station, line + "\nstanding 1 0 0 1 1 0 1\n", 1)
        text = written(BEGUN)
        for old, new in [("pipe 0 0 1 0", "pipe 00 0 1 0"), ("pipe 0 0 1 0", "pipe 0 0 01 0"),
                         ("begin 0 0", "begin 0 00"), ("begin 0 0", "begin 00 0")]:
            self.wrong_at(read_yard, text.replace(old, new), lines_of(text).index(old) + 1)

    def test_the_first_wrong_line_is_told(self):
        lines = lines_of(written(OVERVIEW))
        for first in range(len(lines)):
            for second in range(first + 1, len(lines)):
                told = [("x" if at in (first, second) else line) for at, line in enumerate(lines)]
                self.wrong_at(read_yard, joined_lines(told), first + 1)
        # Also ahead of a goal that is none, and of what is lacking.
        self.wrong_at(read_station, "station 1 1\nstanding 1 0 9 1 1 0 1\nx\n", 3)
        self.wrong_at(read_station, "station 1 1\nstanding 1 0 9 1 1 0 1\nstanding 1 0 0 1", 3)
        self.wrong_at(read_station, "station 1 1\nstanding 1 0 9 1 1 0 1", 2)
        self.wrong_at(read_station, "station 1 1\nx\nstanding", 2)

    def test_nothing_is_changed(self):
        for call, text in self.ALL:
            found = call(text)
            before = repr(found)
            if call == read_table:
                found[1][0].clear()
                found[1].clear()
            self.assertEqual(repr(call(text)), before)
        places = [[(0, ("0",)), (0, ("",))]]
        written((("",), places))
        self.same(places, [[(0, ("0",)), (0, ("",))]])


class Stations(TextCases):
    def test_limits(self):
        row = "standing 1 0 0 1 1 0 1\n"
        for many in range(1, 5):
            self.same(len(read_station("station 1 1\n" + row * many)), many)
        self.wrong_at(read_station, "station 1 1\n" + row * 5, 6)
        self.wrong_at(read_station, "station 1 1\n", 2)
        for line in ("station 0 1", "station 3 1", "station 1 0", "station 1 3", "station 1", "station 1 1 1",
                     "station", "stations 1 1", "standing 1 1", "station 1 -"):
            self.wrong_at(read_station, line + "\n" + row, 1)
        self.assertEqual(read_station("station 2 1\n" + row), Station(2, 1, PASS.standings()))
        for line in ("standing 2 0 0 1 1 0 1", "standing 12 0 0 1 1 0 1", "standing 3 0 0 1 1 0 1",
                     "standing 21 0 0 1 1 0 1", "standing - 0 0 1 1 0 1",
                     "standing 1 0 0 1", "standing 1 0 0 1 1 0 1 0 0 1", "standing 1 000 0 1 1 0 1",
                     "standing 1 0 0 0 1 0 1", "standing 1 0 0 10 1 0 1",
                     "standing 1 2 0 1 1 0 1", "standing 1 0 - 1 1 0 1", "standing 1 0 0 - 1 0 1",
                     "standing 1 0 0 1 1 0", "standing 1", "standing"):
            self.wrong_at(read_station, "station 1 1\n" + line + "\n", 2)
        self.wrong_at(read_station, "station 2 1\nstanding 12 0 0 1 1 0 1\n", 2)
        self.wrong_at(read_station, "station 1 2\nstanding 1 0 0 1 1 0 1\n", 2)

    def test_goals_behind_all_lines(self):
        for goals, line in [((0, 1, 2), None), ((3, 1, 2), 2), ((0, 3, 5), 3), ((0, 1, 3), 4), ((10 ** 29, 0, 9), 2),
                            ((0, 0, 10 ** 29), 4)]:
            text = "station 1 1\n" + "".join(f"standing 1 0 {goal} 1 1 0 1\n" for goal in goals)
            if line is None:
                self.same([row[0][1] for _, row in read_station(text).standings()], list(goals))
            else:
                self.wrong_at(read_station, text, line)
        self.wrong_at(read_station, "station 1 1\nstanding 1 0 0 1 1 1 1\n", 2)


class Yards(TextCases):
    PASSING = "station 1 1\nstanding 1 0 0 1 1 0 1\n"
    COPYING = "station 1 2\nstanding 1 0 0 0 1 1 1 0 1\n"

    def test_stations(self):
        self.wrong_at(read_yard, written(UNLIKE) + "begin 0\ncontents\n", 1)
        for many in (12, 13):
            pipes = "".join(f"pipe {k} 0 {k + 1} 0\n" for k in range(many - 1))
            text = self.PASSING * many + pipes + "begin" + " 0" * many + "\ncontents" + " -" * (many - 1) + "\n"
            if many == 12:
                self.same(len(read_yard(text)), 12)
            else:
                self.wrong_at(read_yard, text, 25)
        self.wrong_at(read_yard, "", 1)
        self.wrong_at(read_yard, "begin\ncontents\n", 1)
        self.wrong_at(read_yard, self.PASSING + "standing 1 0 0 1 1 0 1\n" * 4 + "begin 0\ncontents\n", 6)
        self.same(len(read_yard(self.PASSING + "standing 1 0 0 1 1 0 1\n" * 3 + "begin 3\ncontents\n").stations[0]), 4)

    def test_pipes(self):
        head = self.COPYING + self.PASSING * 2
        end = "begin 0 0 0\ncontents - -\n"
        for pipes, line in [(["0 0 1 0", "0 1 2 0"], None), (["0 1 1 0", "1 0 2 0"], None),
                            (["0 1 2 0", "0 0 1 0"], 8), (["0 0 1 0", "0 0 1 0"], 8),
                            (["0 0 1 0", "0 0 2 0"], 8), (["0 0 1 0", "0 1 1 0"], 8), (["0 2 1 0"], 7),
                            (["0 0 0 0"], 7), (["0 0 3 0"], 7), (["1 0 1 0"], 7),
                            (["2 0 1 0"], 7), (["0 0 1 1"], 7), (["1 1 2 0"], 7), (["0 0 1"], 7), (["0 0 1 0 0"], 7),
                            (["0 0 1 -"], 7), (["-1 0 1 0"], 7),
                            (["0 0 1 0"], 8), ([], 7), (["0 0 1 0", "0 1 2 0", "1 0 2 0"], 9), (["3 0 4 0"], 7)]:
            text = head + "".join(f"pipe {pipe}\n" for pipe in pipes) + end
            if line is None:
                self.same(len(read_yard(text).pipes), 2)
            else:
                self.wrong_at(read_yard, text, line)

    def test_each_pipe_stands_behind_the_one_just_ahead(self):
        head = self.COPYING * 2 + self.PASSING * 2
        for pipes, line in [(["0 0 1 0", "1 0 2 0", "1 1 3 0"], None), (["0 0 1 0", "1 0 2 0", "0 1 3 0"], 11),
                            (["0 0 1 0", "1 1 3 0", "1 0 2 0"], 11)]:
            text = head + "".join(f"pipe {pipe}\n" for pipe in pipes) + "begin 0 0 0 0\ncontents - - -\n"
            if line is None:
                self.same(len(read_yard(text).pipes), 3)
            else:
                self.wrong_at(read_yard, text, line)

    def test_begin_where_more_than_three_exits_are_left(self):
        text = self.COPYING * 3 + "pipe 0 0 1 0\npipe 0 1 2 0\n" + "begin 0 0 0\ncontents - -\n"
        self.wrong_at(read_yard, text, 9)
        self.same(len(read_yard(self.COPYING * 2 + "pipe 0 0 1 0\nbegin 0 0\ncontents -\n").exits), 3)

    def test_standings_and_contents(self):
        head = written(HALF) + self.PASSING + "pipe 0 0 1 0\n"
        for begin, contents, line in [("1 0", "-", None), ("0 0", "111", None), ("2 0", "-", 7), ("0 1", "-", 7),
                                      ("0", "-", 7), ("0 0 0", "-", 7), ("- 0", "-", 7),
                                      ("0 0", "0000", 8), ("0 0", "- -", 8), ("0 0", "2", 8), ("0 0", "", 8),
                                      ("2 0", "0000", 7)]:
            text = head + f"begin {begin}\ncontents {contents}\n"
            if line is None:
                self.same(read_yard(text).begin, (tuple(int(word) for word in begin.split()), (contents.strip("-"),)))
            else:
                self.wrong_at(read_yard, text, line)
        self.wrong_at(read_yard, self.PASSING + "begin 0\ncontents -\n", 4)
        self.wrong_at(read_yard, self.PASSING + "begin 0\ncontents \n", 4)
        self.wrong_at(read_yard, self.PASSING + "contents\nbegin 0\n", 3)

    def test_goals_behind_all_lines(self):
        # A wrong goal in the first station, and in the second one.
        for first, second, line in [(1, 0, 2), (0, 1, 4), (5, 7, 2), (0, 10 ** 29, 4)]:
            head = "".join(f"station 1 1\nstanding 1 0 {goal} 1 1 0 1\n" for goal in (first, second))
            good = head + "pipe 0 0 1 0\nbegin 0 0\ncontents -\n"
            self.wrong_at(read_yard, good, line)
            self.wrong_at(read_yard, good[:-1], 7)
            self.wrong_at(read_yard, good + "x\n", 8)
            self.wrong_at(read_yard, good.replace("begin 0 0", "begin 0 1"), 6)
            self.wrong_at(read_yard, good.replace("pipe 0 0 1 0", "pipe 0 0 1 1"), 5)
        # A goal of another station says nothing.
        text = written(HALF) + "station 1 1\nstanding 1 0 1 1 1 0 1\npipe 0 0 1 0\nbegin 0 0\ncontents -\n"
        self.wrong_at(read_yard, text, 5)


class Tables(TextCases):
    def test_limits(self):
        place = "place 0 - 0 -\n"
        self.same(len(read_table("first -\n" + place * 60)[1]), 60)
        self.wrong_at(read_table, "first -\n" + place * 61, 62)
        self.wrong_at(read_table, "first -\n", 2)
        self.wrong_at(read_table, "", 1)
        for line in ("first", "first - - - -", "first 2", "first  -", "place 0 - 0 -", "First -", "first -,"):
            self.wrong_at(read_table, line + "\n" + place, 1)
        for line in ("place 0 - 0", "place 0 - 0 - -", "place - 0 - 0", "place 0 -", "place 0 - x -", "place 0 - 0 2",
                     "place", "place -1 - 0 -", "first -"):
            self.wrong_at(read_table, "first -\n" + line + "\n", 2)
            self.wrong_at(read_table, "first -\n" + place + line + "\n", 3)
        self.wrong_at(read_table, "first - -\n" + place, 2)
        self.same(read_table("first 0101 - 1\nplace 0 00000 - 1 0 - - -\n"),
                  (("0101", "", "1"), [[(0, ("00000", "", "1")), (0, ("", "", ""))]]))

    def test_goals_behind_all_lines(self):
        for goals, line in [((0, 1), None), ((2, 0), 2), ((0, 2), 3), ((5, 5), 2), ((10 ** 29, 0), 2)]:
            for second in (False, True):
                text = "first -\n" + "".join(f"place {'0 - ' if second else ''}{goal} -{'' if second else ' 0 -'}\n"
                                             for goal in goals)
                if line is None:
                    self.same(len(read_table(text)[1]), 2)
                else:
                    self.wrong_at(read_table, text, line)
                    self.wrong_at(read_table, text + "x\n", 4)
                    self.wrong_at(read_table, text[:-1], 3)


class Terms(TextCases):
    def test_wrong_ones(self):
        for line in ("", "x", "IN", "in ", " in", "in in", "not", "not()", "not(in", "not in", "not(in))", "(in)",
                     "not(in,in)", "not((in))", "not( in)", "late(in)",
                     "late(0 in)", "late(0,in,in)", "late(2,in)", "late(-,in)", "late(00,in)", "late(in,0)",
                     "by(0110,in)", "by(011,in,in)", "by(in,in,0110)", "keep(in)",
                     "keep(in,,in)", "keep(,in,in)", "keep(in,in,)", "then(in,in", "not(in)in", "in(not)", ",in",
                     "in,", "in,in", ")", "(", "()", "not(not(in)", "0", "-",
                     "no(in)", "by(0110,in,in)x", "half(late(0,in)", "half(late(0,in)))", "not[in]", "not(in).",
                     "'in'", "not(0)", "by(0110,in,0)"):
            self.wrong_at(read_term, line + "\n", 1)
            self.wrong_at(read_term, line, 1)

    def test_nine_nodes_and_ten(self):
        for words in (["not"] * 8, ["twice", "half"] * 4):
            text = "(".join(words) + "(in" + ")" * 8
            self.same(written(read_term(text + "\n")), text + "\n")
            self.wrong_at(read_term, f"not({text})\n", 1)
        self.wrong_at(read_term, "not(" * 400 + "in" + ")" * 400 + "\n", 1)
        self.wrong_at(read_term, "(" * 1000 + ")" * 999 + "\n", 1)
        self.same(read_term("by(0110,by(0001,in,in),keep(in,then(in,in)))\n"),
                  ("by", "0110", ("by", "0001", "in", "in"), ("keep", "in", ("then", "in", "in"))))
        self.wrong_at(read_term, "by(0110,by(0001,in,in),keep(in,then(in,not(in))))\n", 1)

    def test_one_line_alone(self):
        self.same(read_term("in\n"), "in")
        self.wrong_at(read_term, "in\nin\n", 2)
        self.wrong_at(read_term, "\nin\n", 1)
        self.same(read_term(lines="late(1,in)\n"), ("late", "1", "in"))


if __name__ == "__main__":
    unittest.main()
