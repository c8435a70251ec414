"""Terms for the tests, and a slow reading of [21] and [22]."""

from helper import odd_values

ONES = ("not", "twice", "half", "change", "count")
UNLIKE_TERM = ("by", "0110", ("half", "in"), "in")

# All nine words, with "in" alone below them.
NINE = ["in", ("not", "in"), ("late", "0", "in"), ("late", "1", "in"), ("twice", "in"), ("half", "in"),
        ("change", "in"), ("count", "in"), ("by", "0001", "in", "in"), ("keep", "in", "in"), ("then", "in", "in")]


def some_term(dice, nodes, words=9):
    """A term of at most so many nodes; with 8 words none has "keep"."""
    if nodes == 1 or dice.below(7) == 0:
        return "in"
    word = dice.below(words) if nodes > 2 else dice.below(6)
    if word < 5:
        return (ONES[word], some_term(dice, nodes - 1, words))
    if word == 5:
        return ("late", dice.one_of("01"), some_term(dice, nodes - 1, words))
    first = 1 + dice.below(nodes - 2)
    parts = (some_term(dice, first, words), some_term(dice, nodes - 1 - first, words))
    if word == 6:
        return ("by", "".join(dice.one_of("01") for _ in range(4)), *parts)
    return (("then", "keep")[word - 7], *parts)


def chain_of(words, least="in"):
    """Nodes with one part each, the first word at the top."""
    for word in reversed(words):
        least = (*word, least) if isinstance(word, tuple) else (word, least)
    return least


def nodes_in(term):
    return 1 if term == "in" else 1 + sum(nodes_in(part) for part in term if isinstance(part, tuple) or part == "in")


def places_of(term):
    """All nodes with whether they stand, down to their "in", for the term's own stream."""
    found = [term]
    for part in term[1:] if isinstance(term, tuple) else ():
        if isinstance(part, tuple) or part == "in":
            found += places_of(part)
    return found


def slow_flow(term, stream):
    return "".join(str(sign) for sign in flow_signs(term, [int(sign) for sign in stream]))


def flow_signs(term, stream):
    if term == "in":
        return list(stream)
    word, *more = term
    if word == "then":
        return flow_signs(more[1], flow_signs(more[0], stream))
    flows = [flow_signs(part, stream) for part in more if isinstance(part, tuple) or part == "in"]
    one = flows[0]
    if word == "not":
        return [1 - sign for sign in one]
    if word == "late":
        return [one[at - 1] if at else int(more[0]) for at in range(len(one))]
    if word == "twice":
        return [one[at // 2] for at in range(2 * len(one))]
    if word == "half":
        return [one[at] for at in range(len(one)) if at % 2 == 1]
    if word == "change":
        return [one[at] ^ (one[at - 1] if at else 0) for at in range(len(one))]
    if word == "count":
        return [sum(one[:at + 1]) % 2 for at in range(len(one))]
    other = flows[1]
    both = range(min(len(one), len(other)))
    if word == "by":
        return [int(more[0][int(f"{one[at]}{other[at]}", 2)]) for at in both]
    return [one[at] for at in both if other[at] == 1]


EIGHT_NOTS = chain_of(["not"] * 8)
FIVE_INS = ("by", "0110", ("by", "0001", "in", "in"), ("by", "0111", "in", ("keep", "in", "in")))


def no_terms():
    """Values of all kinds that are no terms."""
    told = odd_values() + [0, 1, "", "0", "IN", "in ", "not", ["in"], ("in",), (), [], ("not",), ("not", "in", "in")]
    told += [["not", "in"], ("not", ["in"]), ("not", "not"), ("Not", "in"), ("no", "in"), (None, "in"), (0, "in")]
    told += [(["not"], "in"), (("not",), "in"), ("late", "in"), ("late", "2", "in"), ("late", "", "in")]
    told += [("late", "00", "in"), ("late", 0, "in"), ("late", False, "in"), ("late", None, "in"), ("late", "in", "0")]
    told += [("late", ["0"], "in"), ("late", "0", "in", "in"), ("late", "0"), ("twice",), ("half", "in", "in")]
    told += [("change", "0", "in"), ("count", None), ("by", "0110", "in"), ("by", "011", "in", "in")]
    told += [("by", "01101", "in", "in"), ("by", "", "in", "in"), ("by", "012x", "in", "in"), ("by", "in", "in", "0110")]
    told += [("by", ("0", "1", "1", "0"), "in", "in"), ("by", "0110", "in", "in", "in"), ("by", None, "in", "in")]
    told += [("by", "in", "in"), ("keep", "in"), ("keep", "in", "in", "in"), ("keep", "0", "in"), ("keep", "in", 1)]
    told += [("then", "in"), ("then", "in", "in", "in"), ("then", "in", ["in"]), ("then", ("in",), "in")]
    told += [("in", "in"), ("in", "in", "in"), ("table", "0110", "in", "in"), chain_of(["not"] * 9), b"in"]
    return told
