"""The document's example, its lines of yards.py and runs.py, and the example of README.md."""

import doctest
import unittest
from pathlib import Path

from helper import Cases

README = Path(__file__).resolve().parent.parent / "README.md"


class Examples(Cases):
    def test_the_document(self):
        from flowyard.runs import end, flows, full_run
        from flowyard.yards import Station, Yard
        turn = Station(1, 1, [("1", [(("1",), 0, 1), (("0",), 0, 1)])])
        row = Yard([turn, turn], [(0, 0, 1, 0)])
        self.same([flows(row, "01"), full_run(row, "01"), end(row, "01"), full_run(row, "01", (1,))],
                  [["01"], [0, 0, 1, 1], ((0, 0), ("",), "", ("01",)), [0, 1, 0, 1]])

    def test_the_readme(self):
        found = doctest.testfile(str(README), module_relative=False)
        self.assertGreater(found.attempted, 5)
        self.assertEqual(found.failed, 0)


if __name__ == "__main__":
    unittest.main()
