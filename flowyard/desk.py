"""Desks, at which a yard runs on commands that can be taken back."""

from flowyard.benches import bench_at_begin
from flowyard.checks import check_count, check_sizes, check_station, check_text
from flowyard.commands import is_name, read_command, row_parts, written_command
from flowyard.errors import (
    CannotBeDone,
    CommandFailed,
    FlowError,
    InvalidEntry,
    InvalidName,
    InvalidRow,
    LimitError,
    MissingError,
    NothingToUndo,
    StateError,
    TakenName,
    TooMany,
    UnknownName,
)
from flowyard.lines import written_text
from flowyard.swaps import check_image, check_new
from flowyard.yards import Station, is_row, with_row

_MOST_SIGNS = 1000


class Desk:
    """A desk. The bench, what is past and the spares are never changed, but others put in their place."""

    def __init__(self, yard, sizes=None, apart=0):
        check_sizes(yard, sizes)
        check_count(apart)
        self._sizes = sizes
        self._apart = apart
        self._spares = {}
        self._bench = bench_at_begin(yard, sizes)
        # Tuples of a command that was done and the bench ahead of it.
        self._past = ()

    @property
    def sizes(self):
        return self._sizes

    @property
    def apart(self):
        return self._apart

    @property
    def stations(self):
        return self._bench.yard.stations

    @property
    def state(self):
        return self._bench.now

    @property
    def came(self):
        return self._bench.signs

    @property
    def run(self):
        return [station for _, _, station in self._bench.beats]

    def as_yard(self):
        return self._bench.yard.begun(self._bench.now[:2])

    def come(self, text):
        check_text(text)
        if len(self._bench.signs) + len(text) > _MOST_SIGNS:
            raise TooMany("signs", _MOST_SIGNS)
        self._go_on("come", [text], self._bench.with_signs(text))

    def beat(self, station):
        check_station(self._bench.yard, station)
        if station not in self._bench.can_be_done(self._sizes):
            raise CannotBeDone(station)
        self._go_on("beat", [station], self._bench.with_beats([station], self._sizes, self._apart))

    def finish(self):
        run = self._bench.run_to_end(self._sizes)
        self._go_on("finish", [], self._bench.with_beats(run, self._sizes, self._apart))
        return len(run)

    def swap(self, station, name, image):
        check_station(self._bench.yard, station)
        new = self[name]
        check_new(self._bench.yard, station, new)
        check_image(new, image)
        self._go_on("swap", [station, name, image], self._bench.with_new(station, new, image))

    def change(self, station, standing, signs, row):
        check_station(self._bench.yard, station)
        held = self._bench.yard.stations[station]
        # This raises the errors of the standing and of the signs.
        held.row(standing, signs)
        if not is_row(row, held.outs, len(held)):
            raise InvalidRow(row)
        bench = self._bench.with_new(station, with_row(held, standing, signs, row), self._bench.now[0][station])
        self._go_on("change", [station, standing, signs, *row_parts(row)], bench)

    def undo(self):
        if self._past == ():
            raise NothingToUndo()
        command, self._bench = self._past[-1]
        self._past = self._past[:-1]
        return command

    def times(self):
        return self._bench.times()

    def log(self):
        return [command for command, _ in self._past]

    def do(self, command):
        word, told = read_command(command)
        if word == "finish":
            return str(self.finish())
        if word == "undo":
            return self.undo()
        if word in ("flows", "left", "can", "over"):
            return self._answer(word)
        if word == "come":
            self.come(*told)
        elif word == "beat":
            self.beat(*told)
        elif word == "swap":
            self.swap(*told)
        else:
            self.change(*told)
        return "done"

    def do_all(self, *commands):
        bench = self._bench
        past = self._past
        answers = []
        for position, command in enumerate(commands):
            try:
                answers.append(self.do(command))
            except (FlowError, MissingError, StateError, LimitError) as e:
                self._bench = bench
                self._past = past
                raise CommandFailed(position) from e
        return answers

    def __call__(self, command):
        return self.do(command)

    def __iadd__(self, other):
        self.come(other)
        return self

    def __contains__(self, x):
        return isinstance(x, str) and x in self._spares

    def __getitem__(self, at):
        if not isinstance(at, str) or at not in self._spares:
            raise UnknownName(at)
        return self._spares[at]

    def __setitem__(self, at, worth):
        if not is_name(at):
            raise InvalidName(at)
        if at in self._spares:
            raise TakenName(at)
        if not isinstance(worth, Station):
            raise InvalidEntry(worth)
        self._spares = {**self._spares, at: worth}

    def __len__(self):
        return len(self._past)

    def __iter__(self):
        raise TypeError("a desk is not iterated over")

    def _go_on(self, word, told, bench):
        """Put a bench in the place of the one that is kept with the command."""
        self._past = (*self._past, (written_command(word, told), self._bench))
        self._bench = bench

    def _answer(self, word):
        """The answer to a command that turns nothing."""
        _, _, rest, flows = self._bench.now
        if word == "flows":
            return " ".join([written_text(text) for text in flows])
        if word == "left":
            return written_text(rest)
        if word == "over":
            return str(max([0] + [over for _, over, _ in self._bench.beats]))
        can = self._bench.can_be_done(self._sizes)
        if can == []:
            return "none"
        return " ".join([str(station) for station in can])


class Trial:
    """A block behind which all of a desk is as it was ahead of it."""

    def __init__(self, desk):
        self._desk = desk
        self._bench = None
        self._past = None
        self._spares = None

    def __enter__(self):
        self._bench = self._desk._bench
        self._past = self._desk._past
        self._spares = self._desk._spares
        return self._desk

    def __exit__(self, kind, value, trace):
        desk = self._desk
        desk._bench = self._bench
        desk._past = self._past
        desk._spares = self._spares


def tried(desk, action):
    with Trial(desk) as held:
        return action(held)


def told_again(desk, yard):
    again = Desk(yard, desk.sizes, desk.apart)
    again._spares = desk._spares
    log = desk.log()
    again.do_all(*log)
    return again
