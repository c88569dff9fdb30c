"""Several tellers: what they say together, and which of them can be wrong.

The sentences of all tellers go by their indices in the joined tale, whose order
is that of the tuples (name, index).
"""

from itertools import combinations

from backthen.errors import Conflict, InvalidTellers, NoConflict
from backthen.evidence import chain_problem, explain_relation, goal_distances, least_walk, link_arcs
from backthen.orders import moment_number, relation
from backthen.precedence import MOVING_WORDS, Order, tale_links
from backthen.tales import check_tale, is_integer, is_name, is_pair

MOST_TELLERS = 6


def check_tellers(thing):
    """None if thing is tellers, otherwise the first problem."""
    if not isinstance(thing, tuple) or not 1 <= len(thing) <= MOST_TELLERS:
        return ("form",)
    if not all([is_pair(item) for item in thing]):
        return ("form",)
    for i, (name, _) in enumerate(thing):
        if not is_name(name) or (i > 0 and name <= thing[i - 1][0]):
            return ("name", i)
    for i, (_, tale) in enumerate(thing):
        problem = check_tale(tale)
        if problem is not None:
            return ("tale", i, problem)
    return None


def require_tellers(tellers):
    """Raise InvalidTellers if tellers are none."""
    problem = check_tellers(tellers)
    if problem is not None:
        raise InvalidTellers(problem)


def joined_tale(tellers):
    """All sentences of the tellers, teller after teller; they need not be consistent together."""
    return tuple([sentence for _, tale in tellers for sentence in tale])


def joined_order(tellers):
    """The order of the joined tale."""
    return Order(joined_tale(tellers))


def sentence_names(tellers):
    """For each sentence of the joined tale the tuple (name, index)."""
    return [(name, index) for name, tale in tellers for index in range(len(tale))]


def named_steps(tellers, steps):
    """The tuples (name, index) of the steps, which are indices in the joined tale."""
    names = sentence_names(tellers)
    return tuple([names[step] for step in steps])


def ring_arcs(links):
    """The steps of chains: (index, start, end), each end a moment and whether a step so far was strict."""
    arcs = []
    for index, start, end in link_arcs(links):
        strict = links[index][2]
        arcs.append((index, (start, False), (end, strict)))
        arcs.append((index, (start, True), (end, True)))
    return arcs


def least_ring(tale):
    """The shortest ring of a tale that is not consistent, of these the least tuple of indices."""
    arcs = ring_arcs(tale_links(tale))
    lengths = {}
    for moment in sorted({moment for _, moment in tale}):
        distances = goal_distances(arcs, (moment, True))
        if (moment, False) in distances:
            lengths[moment] = distances[(moment, False)]
    shortest = min(lengths.values())
    starts = [moment for moment, length in lengths.items() if length == shortest]
    return min([least_walk(arcs, (moment, False), (moment, True)) for moment in starts])


def tellers_ring(tellers):
    """What conflict returns, for tellers that are known to be some."""
    tale = joined_tale(tellers)
    if Order(tale).is_consistent():
        return None
    return named_steps(tellers, least_ring(tale))


def join(tellers):
    """The tale of all sentences of all tellers, teller after teller."""
    ring = conflict(tellers)
    if ring is not None:
        raise Conflict(ring)
    return joined_tale(tellers)


def conflict(tellers):
    """None if the tellers are consistent together, otherwise the shortest ring, of these the least."""
    require_tellers(tellers)
    return tellers_ring(tellers)


def step_link(names, links, thing):
    """The relation of the sentence that thing names, None if it names none with a relation."""
    if not is_pair(thing) or not is_integer(thing[1]) or thing not in names:
        return None
    return links[names.index(thing)]


def check_ring(tellers, thing):
    """None if thing is a ring of the tellers, otherwise the first problem."""
    require_tellers(tellers)
    if not isinstance(thing, tuple) or not thing:
        return ("form",)
    names = sentence_names(tellers)
    links = tale_links(joined_tale(tellers))
    taken = [step_link(names, links, item) for item in thing]
    if taken[0] is None:
        return ("step", 0)
    # The relation of a "with" sentence names its stand first, so that the problem is that of the stand.
    first, second, strict = taken[0]
    starts = [first] if strict else [first, second]
    problems = [chain_problem(taken, start, start) for start in starts]
    return None if None in problems else problems[0]


def without_relation(tale, k):
    """The tale in which sentence k only moves, as far as it does."""
    word, moment = tale[k]
    moved = (("at", moment),) if word in MOVING_WORDS else ()
    return tale[:k] + moved + tale[k + 1:]


def suspects(tellers):
    """The ascending list of all (name, index) without whose relation the tellers are consistent together."""
    require_tellers(tellers)
    tale = joined_tale(tellers)
    if Order(tale).is_consistent():
        raise NoConflict()
    names = sentence_names(tellers)
    return [names[k] for k in range(len(tale)) if Order(without_relation(tale, k)).is_consistent()]


def dismissed(tellers):
    """The names of the fewest tellers without whom the others are consistent together, of these the least."""
    require_tellers(tellers)
    names = [name for name, _ in tellers]
    # One teller alone is consistent, so that the search ends.
    for many in range(len(names)):
        for chosen in combinations(names, many):
            others = [teller for teller in tellers if teller[0] not in chosen]
            if joined_order(others).is_consistent():
                return chosen


def says_before(order, a, b):
    """Whether the order is consistent, has the moments a and b, and has a before b."""
    if a not in order.number or b not in order.number or not order.is_consistent():
        return False
    return order.precedes(order.number[a], order.number[b])


def backers(tellers, a, b):
    """The names of the fewest tellers, of these the least, that together say that a is before b."""
    require_tellers(tellers)
    order = joined_order(tellers)
    # Looked up only to raise UnknownMoment: the numbers differ from set to set.
    moment_number(order, a)
    moment_number(order, b)
    rows = list(tellers)
    for many in range(1, len(rows) + 1):
        for chosen in combinations(rows, many):
            if says_before(joined_order(chosen), a, b):
                return tuple([name for name, _ in chosen])
    return None


def relate_joined(tellers, a, b):
    """The relation of a and b in the joined tale of consistent tellers, of whom there may be none."""
    return relation(joined_tale(tellers), a, b)


def explain_joined(tellers, a, b):
    """As relate_joined, with evidence; steps of chains are (name, index)."""
    found = explain_relation(joined_tale(tellers), a, b)
    if found[0] == "unknown":
        return found
    return (found[0], named_steps(tellers, found[1]))
