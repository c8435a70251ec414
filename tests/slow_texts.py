"""A second writer of written forms [91] for the tests."""


def told(text):
    return text if text else "-"


def slow_station(station):
    text = f"station {station.ins} {station.outs}\n"
    for reads, rows in station.standings():
        text += f"standing {reads}"
        for gives, goal, ticks in rows:
            for each in gives:
                text += f" {told(each)}"
            text += f" {goal} {ticks}"
        text += "\n"
    return text


def slow_yard(yard):
    text = "".join(slow_station(station) for station in yard.stations)
    for pipe in sorted(yard.pipes):
        text += "pipe {} {} {} {}\n".format(*pipe)
    standings, contents = yard.begin
    text += "begin"
    for standing in standings:
        text += f" {standing}"
    text += "\ncontents"
    for each in contents:
        text += f" {told(each)}"
    return text + "\n"


def slow_table(table):
    first, places = table
    text = "first"
    for each in first:
        text += f" {told(each)}"
    for place in places:
        text += "\nplace"
        for goal, texts in place:
            text += f" {goal}"
            for each in texts:
                text += f" {told(each)}"
    return text + "\n"


def slow_term(term):
    def word(node):
        return node if isinstance(node, str) else node[0] + "(" + ",".join(word(part) for part in node[1:]) + ")"

    return word(term) + "\n"
