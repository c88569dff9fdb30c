"""Evidence: chains of sentences, or timelines, that show a relation."""

from backthen.orders import check_timeline, first_timeline, moment_number, relation, tale_order
from backthen.precedence import tale_links
from backthen.tales import is_integer


def link_end(link, moment):
    """The moment that a step by a sentence leads to from moment, None if it may not be taken."""
    if link is None:
        return None
    first, second, strict = link
    if moment == first:
        return second
    if moment == second and not strict:
        return first
    return None


def link_arcs(links):
    """All steps by the sentences, ascending: tuples (index, start, end)."""
    arcs = []
    for index, link in enumerate(links):
        if link is not None:
            first, second, strict = link
            arcs.append((index, first, second))
            if not strict:
                arcs.append((index, second, first))
    return arcs


def goal_distances(arcs, goal):
    """For each place that leads to the goal the least number of steps."""
    starts = {}
    for _, start, end in arcs:
        starts.setdefault(end, []).append(start)
    distances = {goal: 0}
    fresh = [goal]
    while fresh:
        reached = []
        for end in fresh:
            for start in starts.get(end, []):
                if start not in distances:
                    distances[start] = distances[end] + 1
                    reached.append(start)
        fresh = reached
    return distances


def least_walk(arcs, start, goal):
    """The shortest tuple of indices that lead from start to the goal; of these the least.

    There must be one, and an index must not lead from one place to several.
    """
    distances = goal_distances(arcs, goal)
    indices = []
    while start != goal:
        # Every arc to a place that is nearer begins a shortest way, so the least index wins.
        nearer = distances[start] - 1
        index, _, start = min([arc for arc in arcs if arc[1] == start and distances.get(arc[2]) == nearer])
        indices.append(index)
    return tuple(indices)


def least_chain(tale, a, b):
    """The shortest chain from a to b; of these the least."""
    return least_walk(link_arcs(tale_links(tale)), a, b)


def least_timeline(tale, a, b):
    """The least timeline in which a's group stands ahead of b's."""
    return first_timeline(tale + (("at", a), ("then", b)))


def explain_relation(tale, a, b):
    """The relation of a and b with evidence."""
    word = relation(tale, a, b)
    if word == "unknown":
        return (word, least_timeline(tale, a, b), least_timeline(tale, b, a))
    if word == "after":
        return (word, least_chain(tale, b, a))
    return (word, least_chain(tale, a, b))


def chain_problem(links, start, goal):
    """None if steps by these relations lead from start to goal, one of them strict, otherwise the first problem.

    None in place of a relation stands for a step that there is not.
    """
    moment = start
    for i, link in enumerate(links):
        moment = link_end(link, moment)
        if moment is None:
            return ("step", i)
    if moment != goal:
        return ("end",)
    if not any([strict for _, _, strict in links]):
        return ("strict",)
    return None


def check_chain(tale, start, goal, thing):
    """None if the steps of thing are a chain of its kind, otherwise the first problem."""
    word, steps = thing
    links = tale_links(tale)
    taken = [links[step] if is_integer(step) and 0 <= step < len(links) else None for step in steps]
    if word != "same":
        return chain_problem(taken, start, goal)
    problem = chain_problem([None if link is None or link[2] else link for link in taken], start, goal)
    return None if problem == ("strict",) else problem


def check_sides(tale, a, b, timelines):
    """None if a's group stands ahead of b's in the first timeline and behind it in the second."""
    for i, timeline in enumerate(timelines):
        problem = check_timeline(tale, timeline)
        if problem is not None:
            return ("timeline", i, problem)
    order = tale_order(tale)
    one = order.groups[moment_number(order, a)]
    other = order.groups[moment_number(order, b)]
    first, second = timelines
    if first.index(one) >= first.index(other):
        return ("side", 0)
    if second.index(other) >= second.index(one):
        return ("side", 1)
    return None


def check_explanation(tale, a, b, thing):
    """None if thing shows a relation of a and b, otherwise the first problem."""
    # An invalid tale and unknown moments come before any problem of the thing.
    relation(tale, a, b)
    if not isinstance(thing, tuple):
        return ("form",)
    if len(thing) == 3 and thing[0] == "unknown":
        return check_sides(tale, a, b, thing[1:])
    if len(thing) != 2 or thing[0] not in ("before", "after", "same") or not isinstance(thing[1], tuple):
        return ("form",)
    if thing[0] == "after":
        return check_chain(tale, b, a, thing)
    return check_chain(tale, a, b, thing)
