"""A plain second desk for the tests [93] to [95], which keeps copies of all that it was."""

import copy

from flowyard.yards import Station, Yard
from helper import slow_behind, slow_can
from slow_texts import told


def with_other_row(station, standing, signs, row):
    standings = []
    for number, (reads, rows) in enumerate(station.standings()):
        known = ["00", "01", "10", "11"] if reads == "12" else ["0", "1"]
        standings.append((reads, [row if (number, each) == (standing, signs) else old for each,
                                  old in zip(known, rows)]))
    return Station(station.ins, station.outs, standings)


class PlainDesk:
    def __init__(self, yard, sizes, apart):
        self.sizes = sizes
        self.apart = apart
        self.pipes = sorted(yard.pipes)
        self.spares = {}
        self.past = []
        self.now = {"stations": yard.stations, "state": (*yard.begin, "", ("",) * len(yard.exits)), "came": "",
                    "run": [], "times": [],
                    # For each pipe when each of its signs was there, and when each one was taken.
                    "there": [[0] * len(text) for text in yard.begin[1]], "taken": [[] for _ in yard.pipes],
                    "free": [0] * len(yard.stations), "counts": [0] * len(yard.stations)}

    def yard(self):
        return Yard(self.now["stations"], self.pipes)

    def can(self):
        return slow_can(self.yard(), self.now["state"], self.sizes)

    def keep(self, command):
        self.past.append((command, copy.copy({name: copy.deepcopy(value) if name != "stations" else list(value)
                                              for name, value in self.now.items()})))

    def come(self, text):
        standings, contents, rest, flows = self.now["state"]
        self.now["state"] = (standings, contents, rest + text, flows)
        self.now["came"] += text

    def beat(self, station):
        """Do it at the greatest of the moments that [51] asks for."""
        now, yard = self.now, self.yard()
        state = now["state"]
        reads, rows = yard.stations[station].standings()[state[0][station]]
        asked = [0, now["free"][station]]
        signs = ""
        read = []
        for line in {"1": [0], "2": [1], "12": [0, 1]}[reads]:
            if (station, line) == (0, 0):
                asked.append((len(now["came"]) - len(state[2])) * self.apart)
                signs += state[2][0]
            for at, pipe in enumerate(self.pipes):
                if pipe[2:] == (station, line):
                    asked.append(now["there"][at][len(now["taken"][at])])
                    signs += state[1][at][0]
                    read.append(at)
        gives, _, ticks = rows[int(signs, 2)]
        puts = [(at, gives[pipe[1]]) for at, pipe in enumerate(self.pipes) if pipe[0] == station]
        for at, text in puts:
            last = len(now["there"][at]) + len(text)
            if text and self.sizes is not None and last > self.sizes[at]:
                asked.append(now["taken"][at][last - self.sizes[at] - 1])
        begin = max(asked)
        for at in read:
            now["taken"][at].append(begin)
        for at, text in puts:
            now["there"][at] += [begin + ticks] * len(text)
        now["state"] = slow_behind(yard, state, station, self.sizes)
        now["free"][station] = begin + ticks
        now["run"].append(station)
        now["times"].append((begin, begin + ticks, (station, now["counts"][station])))
        now["counts"][station] += 1

    def put(self, station, new, standing):
        standings = list(self.now["state"][0])
        standings[station] = standing
        self.now["state"] = (tuple(standings), *self.now["state"][1:])
        self.now["stations"][station] = new

    def do(self, command):
        """The answer to a command that can be done."""
        words = command.split(" ")
        standings, _, rest, flows = self.now["state"]
        if words[0] == "flows":
            return " ".join(told(text) for text in flows)
        if words[0] == "left":
            return told(rest)
        if words[0] == "can":
            return " ".join(str(station) for station in self.can()) or "none"
        if words[0] == "over":
            return str(max([0] + [over for _, over, _ in self.now["times"]]))
        if words[0] == "undo":
            command, self.now = self.past.pop()
            return command
        self.keep(command)
        answer = "done"
        if words[0] == "come":
            self.come(words[1].strip("-"))
        elif words[0] == "beat":
            self.beat(int(words[1]))
        elif words[0] == "finish":
            ahead = len(self.now["run"])
            while can := self.can():
                self.beat(can[0])
            answer = str(len(self.now["run"]) - ahead)
        elif words[0] == "swap":
            self.put(int(words[1]), self.spares[words[2]], int(words[3]))
        else:
            station, standing = int(words[1]), int(words[2])
            row = (tuple(text.strip("-") for text in words[4:-2]), int(words[-2]), int(words[-1]))
            self.put(station, with_other_row(self.now["stations"][station], standing, words[3], row),
                     standings[station])
        return answer
