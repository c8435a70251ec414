"""Terms, which tell flows, and what can be said of them."""

from flowyard.basics import is_sign, is_text, lowest_terms
from flowyard.checks import check_stream
from flowyard.errors import InvalidTerm, TooMany

_MOST_NODES = 9
_MOST_SIGNS = 8000
_TABLE_SIGNS = 4

# By the words of tuples: how many elements tell something, and how many parts stand behind these.
_FORMS = {
    "not": (0, 1),
    "late": (1, 1),
    "twice": (0, 1),
    "half": (0, 1),
    "change": (0, 1),
    "count": (0, 1),
    "by": (1, 2),
    "keep": (0, 2),
    "then": (0, 2),
}


def is_term(value):
    waiting = [value]
    nodes = 0
    while waiting != []:
        node = waiting.pop()
        nodes += 1
        if nodes > _MOST_NODES or not _is_node(node):
            return False
        waiting.extend(parts_of(node))
    return True


def check_term(term):
    if not is_term(term):
        raise InvalidTerm(term)


def word_of(node):
    if isinstance(node, str):
        return node
    return node[0]


def parts_of(node):
    """The parts t and u, or t alone, or none of "in"."""
    if word_of(node) == "in":
        return []
    told, _ = _FORMS[word_of(node)]
    return list(node[1 + told :])


def outer_ins(term):
    """How many "in" of the term stand for its own stream."""
    if word_of(term) == "in":
        return 1
    if word_of(term) == "then":
        return outer_ins(term[1])
    return sum([outer_ins(part) for part in parts_of(term)])


def flow_of(term, stream):
    check_term(term)
    check_stream(stream)
    return _flow_at(term, stream)


def put_in(term, other):
    check_term(term)
    check_term(other)
    return _checked_nodes(_put_at(term, other))


def plain(term):
    check_term(term)
    return _checked_nodes(_plain_at(term))


def slope(term):
    check_term(term)
    if _has_keep(term):
        return None
    return _slope_at(term)


def is_even(term):
    check_term(term)
    if _has_keep(term):
        return None
    both = [parts_of(node) for node in _nodes_of(term) if word_of(node) == "by"]
    return all([_slope_at(one) == _slope_at(other) for one, other in both])


def _is_node(value):
    """Whether it is a term if its parts, of any kind as yet, are some."""
    if not isinstance(value, tuple):
        return isinstance(value, str) and value == "in"
    if value == () or not isinstance(value[0], str) or value[0] not in _FORMS:
        return False
    if len(value) != 1 + sum(_FORMS[value[0]]):
        return False
    if value[0] == "late":
        return is_sign(value[1])
    return value[0] != "by" or is_text(value[1]) and len(value[1]) == _TABLE_SIGNS


def _nodes_of(term):
    found = [term]
    for part in parts_of(term):
        found.extend(_nodes_of(part))
    return found


def _has_keep(term):
    return any([word_of(node) == "keep" for node in _nodes_of(term)])


def _checked_nodes(term):
    if len(_nodes_of(term)) > _MOST_NODES:
        raise TooMany("nodes", _MOST_NODES)
    return term


def _flow_at(term, stream):
    if word_of(term) == "in":
        flow = stream
    elif word_of(term) == "then":
        flow = _flow_at(term[2], _flow_at(term[1], stream))
    else:
        flow = _given(term, [_flow_at(part, stream) for part in parts_of(term)])
    if len(flow) > _MOST_SIGNS:
        raise TooMany("signs", _MOST_SIGNS)
    return flow


def _given(term, flows):
    """What the term's own node gives of the flows of its parts."""
    word = word_of(term)
    if word == "by":
        return "".join([term[1][2 * int(one) + int(other)] for one, other in zip(*flows)])
    if word == "keep":
        return "".join([one for one, other in zip(*flows) if other == "1"])
    return _given_of_one(term, flows[0])


def _given_of_one(term, flow):
    word = word_of(term)
    if word == "not":
        return "".join([_unlike(sign, "1") for sign in flow])
    if word == "late":
        return (term[1] + flow)[: len(flow)]
    if word == "twice":
        return "".join([sign * 2 for sign in flow])
    if word == "half":
        return flow[1::2]
    if word == "change":
        return "".join([_unlike(last, sign) for last, sign in zip("0" + flow, flow)])
    return _counted(flow)


def _counted(flow):
    found = ""
    last = "0"
    for sign in flow:
        last = _unlike(last, sign)
        found = found + last
    return found


def _unlike(one, other):
    if one == other:
        return "0"
    return "1"


def _put_at(term, other):
    if word_of(term) == "in":
        return other
    if word_of(term) == "then":
        return ("then", _put_at(term[1], other), term[2])
    return _with_parts(term, [_put_at(part, other) for part in parts_of(term)])


def _plain_at(term):
    if word_of(term) == "in":
        return term
    parts = [_plain_at(part) for part in parts_of(term)]
    if word_of(term) == "then":
        return _put_at(parts[1], parts[0])
    return _with_parts(term, parts)


def _with_parts(term, parts):
    """The node with these parts in the place of its own ones."""
    return (*term[: len(term) - len(parts)], *parts)


def _slope_at(term):
    word = word_of(term)
    if word == "in":
        return (1, 1)
    slopes = [_slope_at(part) for part in parts_of(term)]
    many, of = slopes[0]
    if word == "twice":
        return lowest_terms(2 * many, of)
    if word == "half":
        return lowest_terms(many, 2 * of)
    if word == "by":
        return _lesser(slopes[0], slopes[1])
    if word == "then":
        return lowest_terms(many * slopes[1][0], of * slopes[1][1])
    return slopes[0]


def _lesser(one, other):
    if one[0] * other[1] <= other[0] * one[1]:
        return one
    return other
