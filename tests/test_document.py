"""The document's examples, one behind another, and the example of README.md."""

import doctest
import unittest
from pathlib import Path

from helper import Cases

README = Path(__file__).resolve().parent.parent / "README.md"


class Examples(Cases):
    def test_the_document(self):
        from flowyard.needs import exchanges, how_many_full, must_be_ahead, needs
        from flowyard.runs import end, flows, full_run
        from flowyard.yards import Station, Yard
        turn = Station(1, 1, [("1", [(("1",), 0, 1), (("0",), 0, 1)])])
        row = Yard([turn, turn], [(0, 0, 1, 0)])
        self.same([flows(row, "01"), full_run(row, "01"), end(row, "01"), full_run(row, "01", (1,))],
                  [["01"], [0, 0, 1, 1], ((0, 0), ("",), "", ("01",)), [0, 1, 0, 1]])
        self.same([how_many_full(row, "01"), exchanges(row, "01", [0, 0, 1, 1], [0, 1, 0, 1]), needs(row, "01", (1, 1)),
                   must_be_ahead(row, "01", (0, 1), (1, 0))], [2, [1], [(0, 1), (1, 0)], False])

    def test_terms(self):
        from flowyard.terms import flow_of, is_even, is_term, plain, put_in, slope
        unlike = ("by", "0110", ("half", "in"), "in")
        self.same([flow_of(unlike, "0110"), flow_of(("late", "1", ("count", "in")), "0110"),
                   flow_of(("then", ("twice", "in"), ("change", "in")), "10")], ["11", "1010", "1010"])
        self.same([flow_of(("keep", "in", ("not", "in")), "0110"), slope(unlike), is_even(unlike),
                   is_term(("by", "01", "in", "in"))], ["00", (1, 2), False, False])
        self.same([put_in(("keep", "in", ("then", "in", ("half", "in"))), ("not", "in")),
                   plain(("then", ("twice", "in"), unlike))],
                  [("keep", ("not", "in"), ("then", ("not", "in"), ("half", "in"))),
                   ("by", "0110", ("half", ("twice", "in")), ("twice", "in"))])

    def test_compiled_and_fused(self):
        from flowyard.compiling import compiled, station_for
        from flowyard.fusing import can_fuse, fused, joint_standings
        from flowyard.runs import flows
        yard = compiled(("by", "0110", ("half", "in"), "in"))
        self.same([len(yard), yard.pipes, flows(yard, "0110"), can_fuse(yard, (1, 0, 2, 0))],
                  [3, [(0, 0, 1, 0), (0, 1, 2, 1), (1, 0, 2, 0)], ["11"], False])
        self.assertEqual(repr(station_for(("half", "in"))),
                         "Station(1, 1, [('1', [(('',), 1, 1), (('',), 1, 1)]), "
                         "('1', [(('0',), 0, 1), (('1',), 0, 1)])])")
        even = compiled(("count", ("change", "in")))
        self.assertEqual(repr([joint_standings(even, (0, 0, 1, 0)), fused(even).stations]),
                         "[[(0, 0), (1, 1)], [Station(1, 1, [('1', [(('0',), 0, 2), (('1',), 1, 2)]), "
                         "('1', [(('0',), 0, 2), (('1',), 1, 2)])])]]")

    def test_the_readme(self):
        found = doctest.testfile(str(README), module_relative=False)
        self.assertGreater(found.attempted, 5)
        self.assertEqual(found.failed, 0)


if __name__ == "__main__":
    unittest.main()
