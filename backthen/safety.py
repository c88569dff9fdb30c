"""Safety: how many places a listener must doze at until a relation is unknown.

A moment goes by its name, the stand node P(j) by the integer j. The links of
the steps are as those of sentences: tuples (first, second, strict). A flow
gives each step the number of routes that take it from first to second, less
the number of those that take it the other way.
"""

from itertools import combinations

from backthen.errors import InvalidPlace, NothingKnown
from backthen.evidence import goal_distances, least_walk, link_end
from backthen.fresh import with_jumps
from backthen.orders import relation, tale_order
from backthen.precedence import MOVING_WORDS, Order, sentence_link
from backthen.tales import is_integer, is_pair, moments, require_tale


def place_problem(tale, places):
    """The smallest index whose item is not a place beyond the one ahead of it, None if there is none."""
    for i, place in enumerate(places):
        if not is_integer(place) or not 1 <= place < len(tale) or (i > 0 and place <= places[i - 1]):
            return i
    return None


def dozed_tale(tale, places):
    """The tale as a listener knows it who dozed at the places."""
    require_tale(tale)
    problem = place_problem(tale, places)
    if problem is not None:
        raise InvalidPlace(problem)
    return with_jumps(tale, places)


def step_links(tale):
    """For each step of the tale its link."""
    links = {}
    for j, (word, moment) in enumerate(tale):
        link = sentence_link(j, word, moment)
        if link is not None:
            before, named = tale[j - 1]
            links[("say", j)] = link
            links[("hold", j)] = (j, named if before in MOVING_WORDS else j - 1, False)
    return links


def free_arcs(links, flow):
    """The steps that one more route can take, or that one route less would take: (step, start, end)."""
    arcs = []
    for step, (first, second, strict) in links.items():
        is_hold = step[0] == "hold"
        if not is_hold or flow[step] < 1:
            arcs.append((step, first, second))
        # Against its direction a step is only free where that takes back a route.
        least = -1 if is_hold else 0
        if flow[step] > least or (not is_hold and not strict):
            arcs.append((step, second, first))
    return arcs


def used_arcs(links, flow):
    """The steps that routes take: (step, start, end)."""
    arcs = []
    for step, (first, second, _) in links.items():
        if flow[step] > 0:
            arcs.append((step, first, second))
        if flow[step] < 0:
            arcs.append((step, second, first))
    return arcs


def push(links, flow, start, steps, many):
    """Add that many times the route of the steps from start to the flow."""
    node = start
    for step in steps:
        first, second, _ = links[step]
        flow[step] += many if node == first else -many
        node = second if node == first else first


def greatest_flow(links, start, goal):
    """(flow, places): the flow of the most routes, and as many places that cut all routes."""
    flow = {step: 0 for step in links}
    while True:
        arcs = free_arcs(links, flow)
        near = goal_distances(arcs, goal)
        if start not in near:
            break
        push(links, flow, start, least_walk(arcs, start, goal), 1)
    # The nodes from which the goal can still be reached lie behind the cut.
    places = []
    for (kind, j), (first, second, _) in links.items():
        if kind == "hold" and (first in near) != (second in near):
            places.append(j)
    return flow, places


def flow_routes(links, flow, start, goal, many):
    """The routes that make up the flow, which is used up."""
    routes = []
    for _ in range(many):
        route = least_walk(used_arcs(links, flow), start, goal)
        push(links, flow, start, route, -1)
        routes.append(route)
    return tuple(routes)


def route_ends(tale, a, b):
    """The moments from which to which routes show the relation of a and b."""
    return (b, a) if relation(tale, a, b) == "after" else (a, b)


def safety(tale, a, b):
    """The smallest number of places to doze at until the relation of a and b is unknown."""
    start, goal = route_ends(tale, a, b)
    if a == b:
        return None
    _, places = greatest_flow(step_links(tale), start, goal)
    return len(places)


def known_ends(tale, a, b):
    """As route_ends; raises NothingKnown if the relation is unknown or a and b are the same moment."""
    ends = route_ends(tale, a, b)
    if a == b or relation(tale, a, b) == "unknown":
        raise NothingKnown()
    return ends


def explain_safety(tale, a, b):
    """(n, routes, places): the safety of a and b with n routes and n places as evidence."""
    start, goal = known_ends(tale, a, b)
    links = step_links(tale)
    flow, places = greatest_flow(links, start, goal)
    routes = flow_routes(links, flow, start, goal, len(places))
    return (len(places), routes, tuple(places))


def is_step(thing):
    """Whether thing is a tuple of "say" or "hold" and an integer."""
    return is_pair(thing) and thing[0] in ("say", "hold") and is_integer(thing[1])


def is_route(links, start, goal, thing):
    """Whether thing is a route from start to goal."""
    if not isinstance(thing, tuple):
        return False
    node = start
    for step in thing:
        if not is_step(step):
            return False
        node = link_end(links.get(step), node)
        if node is None:
            return False
    return node == goal


def shared_place(routes):
    """The smallest place of two "hold" steps of the routes, None if there is none."""
    counts = {}
    for route in routes:
        for kind, j in route:
            if kind == "hold":
                counts[j] = counts.get(j, 0) + 1
    return min([j for j, count in counts.items() if count > 1], default=None)


def is_evidence(thing):
    """Whether thing is a tuple of an integer of at least 1, a tuple and a tuple."""
    if not isinstance(thing, tuple) or len(thing) != 3:
        return False
    return is_integer(thing[0]) and thing[0] >= 1 and isinstance(thing[1], tuple) and isinstance(thing[2], tuple)


def check_safety(tale, a, b, thing):
    """None if thing shows that its first item is the safety of a and b, otherwise the first problem."""
    start, goal = known_ends(tale, a, b)
    if not is_evidence(thing):
        return ("form",)
    many, routes, places = thing
    if len(routes) != many or len(places) != many:
        return ("length",)
    links = step_links(tale)
    for i, route in enumerate(routes):
        if not is_route(links, start, goal, route):
            return ("route", i)
    shared = shared_place(routes)
    if shared is not None:
        return ("shared", shared)
    problem = place_problem(tale, places)
    if problem is not None:
        return ("place", problem)
    if relation(dozed_tale(tale, places), a, b) != "unknown":
        return ("open",)
    return None


def known_count(order, names):
    """The number of pairs of the names whose relation is known."""
    count = 0
    for a, b in combinations(names, 2):
        one, other = order.number[a], order.number[b]
        if one == other or not order.unrelated(one, other):
            count += 1
    return count


def fragile_places(tale):
    """All tuples (place, n), ascending, where dozing at the place alone makes n relations unknown."""
    names = moments(tale)
    known = known_count(tale_order(tale), names)
    found = []
    for place in range(1, len(tale)):
        left = known_count(Order(with_jumps(tale, [place])), names)
        # Dozing only ever makes relations unknown, so the counts tell how many.
        if left < known:
            found.append((place, known - left))
    return found
