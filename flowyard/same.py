"""Yards that give the same of all streams, and the least tables that tell what they give."""

from flowyard.basics import is_below, is_list, is_stream, is_tuple_of
from flowyard.checks import are_texts
from flowyard.errors import OtherExits
from flowyard.looking import look_through
from flowyard.pairs import compared


def are_same(one, other):
    return parting(one, other) is None


def parting(one, other):
    mine, yours = _both_looked_through(one, other)
    stream, _ = compared(mine, yours, list(range(len(one.exits))))
    return stream


def same_paper(one, other):
    mine, yours = _both_looked_through(one, other)
    _, pairs = compared(mine, yours, list(range(len(one.exits))))
    return pairs


def is_same_paper(one, other, value):
    mine, yours = _both_looked_through(one, other)
    if not is_list(value) or not all([_is_pair(mine, yours, pair) for pair in value]):
        return False
    known = {pair: True for pair in value}
    if len(known) < len(value) or (0, 0) not in known or mine.first != yours.first:
        return False
    return all([_leads_within(mine, yours, pair, known) for pair in value])


def is_parting(one, other, value):
    mine, yours = _both_looked_through(one, other)
    return is_stream(value) and mine.flows(value) != yours.flows(value)


def least_table(yard):
    looked = look_through(yard)
    places = _places(looked)
    rows = []
    for place in range(max(places) + 1):
        steps = looked.steps[places.index(place)]
        rows.append([(places[rest], texts) for rest, texts in steps])
    return (looked.first, rows)


def classes(yard):
    return _places(look_through(yard))


def is_table_of(yard, value):
    looked = look_through(yard)
    if not is_table(value, len(yard.exits)) or value[0] != looked.first:
        return False
    rows = value[1]
    waiting = [(0, 0)]
    met = {(0, 0): True}
    while waiting != []:
        place, rest = waiting.pop()
        for (goal, told), (behind, given) in zip(rows[place], looked.steps[rest]):
            if told != given:
                return False
            if (goal, behind) not in met:
                met[(goal, behind)] = True
                waiting.append((goal, behind))
    return True


def _both_looked_through(one, other):
    mine = look_through(one)
    yours = look_through(other)
    if len(one.exits) != len(other.exits):
        raise OtherExits(len(one.exits), len(other.exits))
    return mine, yours


def _is_pair(mine, yours, value):
    return is_tuple_of(value, 2) and is_below(value[0], len(mine.rests)) and is_below(value[1], len(yours.rests))


def _leads_within(mine, yours, pair, known):
    """Whether both give the same by either sign and come to a known pair."""
    for (my_rest, my_texts), (your_rest, your_texts) in zip(mine.steps[pair[0]], yours.steps[pair[1]]):
        if my_texts != your_texts or (my_rest, your_rest) not in known:
            return False
    return True


def _places(looked):
    """For each rest the place of the least table, those of rests that tell the same being one."""
    places = _numbered([tuple([texts for _, texts in steps]) for steps in looked.steps])
    finer = _finer(looked, places)
    while max(finer) > max(places):
        places = finer
        finer = _finer(looked, places)
    return places


def _finer(looked, places):
    marks = []
    for place, steps in zip(places, looked.steps):
        marks.append((place, tuple([places[rest] for rest, _ in steps])))
    return _numbered(marks)


def _numbered(marks):
    """Equal marks numbered as they come, which is as the rests are come to."""
    numbers = {}
    for mark in marks:
        numbers.setdefault(mark, len(numbers))
    return [numbers[mark] for mark in marks]


def is_table(value, exits):
    """Whether it is a table for so many exits."""
    if not is_tuple_of(value, 2):
        return False
    first, rows = value
    if not are_texts(first, exits) or not is_list(rows) or len(rows) == 0:
        return False
    return all([_is_place(row, exits, len(rows)) for row in rows])


def _is_place(value, exits, places):
    if not is_list(value) or len(value) != 2:
        return False
    return all([_is_goal(goal, exits, places) for goal in value])


def _is_goal(value, exits, places):
    return is_tuple_of(value, 2) and is_below(value[0], places) and are_texts(value[1], exits)
