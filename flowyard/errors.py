"""The errors of the package.

Each class has its own constructor, as the document lists one for each.
"""


class FlowError(ValueError):
    """A value that was passed is not valid."""


class InvalidIns(FlowError):
    def __init__(self, value):
        self.value = value


class InvalidOuts(FlowError):
    def __init__(self, value):
        self.value = value


class InvalidStandings(FlowError):
    def __init__(self, position):
        self.position = position


class InvalidStations(FlowError):
    def __init__(self, position):
        self.position = position


class InvalidPipes(FlowError):
    def __init__(self, position):
        self.position = position


class InvalidBegin(FlowError):
    def __init__(self, value):
        self.value = value


class InvalidStation(FlowError):
    def __init__(self, value):
        self.value = value


class InvalidStanding(FlowError):
    def __init__(self, value):
        self.value = value


class InvalidExit(FlowError):
    def __init__(self, value):
        self.value = value


class InvalidStream(FlowError):
    def __init__(self, value):
        self.value = value


class InvalidState(FlowError):
    def __init__(self, value):
        self.value = value


class InvalidSizes(FlowError):
    def __init__(self, value):
        self.value = value


class InvalidRun(FlowError):
    def __init__(self, position):
        self.position = position


class InvalidBeat(FlowError):
    def __init__(self, value):
        self.value = value


class InvalidOrder(FlowError):
    def __init__(self, value):
        self.value = value


class InvalidNumber(FlowError):
    def __init__(self, value):
        self.value = value


class InvalidSign(FlowError):
    def __init__(self, value):
        self.value = value


class InvalidText(FlowError):
    def __init__(self, value):
        self.value = value


class InvalidTerm(FlowError):
    def __init__(self, value):
        self.value = value


class InvalidPipe(FlowError):
    def __init__(self, value):
        self.value = value


class InvalidRest(FlowError):
    def __init__(self, value):
        self.value = value


class InvalidLap(FlowError):
    def __init__(self, value):
        self.value = value


class InvalidGoals(FlowError):
    def __init__(self, position):
        self.position = position


class InvalidLots(FlowError):
    def __init__(self, position):
        self.position = position


class InvalidLot(FlowError):
    def __init__(self, value):
        self.value = value


class InvalidPlace(FlowError):
    def __init__(self, value):
        self.value = value


class InvalidWhole(FlowError):
    def __init__(self, value):
        self.value = value


class InvalidRests(FlowError):
    def __init__(self, value):
        self.value = value


class InvalidNew(FlowError):
    def __init__(self, value):
        self.value = value


class InvalidImage(FlowError):
    def __init__(self, value):
        self.value = value


class InvalidPatch(FlowError):
    def __init__(self, position):
        self.position = position


class InvalidPart(FlowError):
    def __init__(self, value):
        self.value = value


class InvalidLines(FlowError):
    def __init__(self, line):
        self.line = line


class InvalidEntry(FlowError):
    def __init__(self, value):
        self.value = value


class InvalidClaim(FlowError):
    def __init__(self, value):
        self.value = value


class InvalidName(FlowError):
    def __init__(self, value):
        self.value = value


class InvalidCommand(FlowError):
    def __init__(self, value):
        self.value = value


class InvalidRow(FlowError):
    def __init__(self, value):
        self.value = value


class MissingError(LookupError):
    """What was asked for is not there."""


class UnknownBeat(MissingError):
    def __init__(self, value):
        self.value = value


class UnknownName(MissingError):
    def __init__(self, value):
        self.value = value


class StateError(RuntimeError):
    """As things stand this cannot be done."""


class CannotBeDone(StateError):
    def __init__(self, value):
        self.value = value


class NotHeld(StateError):
    def __init__(self, stream):
        self.stream = stream


class NotEnough(StateError):
    def __init__(self, stream):
        self.stream = stream


class OtherExits(StateError):
    def __init__(self, one, other):
        self.one = one
        self.other = other


class NothingToUndo(StateError):
    def __init__(self):
        pass


class CommandFailed(StateError):
    def __init__(self, position):
        self.position = position


class CannotFuse(StateError):
    def __init__(self, value):
        self.value = value


class NeverHeard(StateError):
    def __init__(self, value):
        self.value = value


class PatchesClash(StateError):
    def __init__(self, value):
        self.value = value


class TakenName(StateError):
    def __init__(self, value):
        self.value = value


class LimitError(ArithmeticError):
    """This goes beyond what the package looks at."""


class TooMany(LimitError):
    def __init__(self, what, limit):
        self.what = what
        self.limit = limit
