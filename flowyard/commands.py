"""Commands: lines of words that tell a desk what to do."""

from flowyard.errors import InvalidCommand
from flowyard.lines import count_of, counts_of, text_of, texts_of, written_text

_MOST_LETTERS = 8
_LETTERS = "abcdefghijklmnopqrstuvwxyz"
_BARE_WORDS = ("finish", "undo", "flows", "left", "can", "over")


def is_name(value):
    return isinstance(value, str) and 1 <= len(value) <= _MOST_LETTERS and value.strip(_LETTERS) == ""


def read_command(command):
    """The first word of a command, and the list of what its other words tell."""
    if not isinstance(command, str):
        raise InvalidCommand(command)
    words = command.split(" ")
    told = _told_by(words)
    if told is None or None in told:
        raise InvalidCommand(command)
    return words[0], told


def written_command(word, told):
    """The command with this word and these COUNTS, NAMES and texts; of a row its parts."""
    return " ".join([word] + [_written_part(part) for part in told])


def row_parts(row):
    """The texts of a row, its goal and its ticks."""
    gives, goal, ticks = row
    return [*gives, goal, ticks]


def _told_by(words):
    """What the words behind the first one tell, None for each that tells nothing; None if they are no command."""
    word = words[0]
    if len(words) == 1 and word in _BARE_WORDS:
        return []
    if len(words) == 2 and word == "come":
        return [text_of(words[1])]
    if len(words) == 2 and word == "beat":
        return [count_of(words[1])]
    if len(words) == 4 and word == "swap":
        return [count_of(words[1]), _name_of(words[2]), count_of(words[3])]
    if 7 <= len(words) <= 8 and word == "change":
        return [count_of(words[1]), count_of(words[2]), text_of(words[3]), _row_of(words[4:])]
    return None


def _name_of(word):
    if is_name(word):
        return word
    return None


def _row_of(words):
    gives = texts_of(words[:-2])
    numbers = counts_of(words[-2:])
    if gives is None or numbers is None:
        return None
    return (gives, *numbers)


def _written_part(part):
    if isinstance(part, str):
        return written_text(part)
    return str(part)
