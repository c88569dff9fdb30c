"""Short tales: the fewest sentences that tell the order of a forest tale.

Each walk begins with an "at" sentence, so as few walks along covers as possible
are sought that visit every forced group, and a group of every cover. A cover
that is walked twice would cost a sentence, as a new walk does, so none is.

A plan for some groups is a tuple (cost, visited, walked): the numbers of the
groups that are visited, the pairs of the covers that are walked, and as its
cost twice the number of walks that this takes. Walks along the same covers join
wherever they meet: one end of a walk stands at each group with an odd number of
walked covers, and both ends at a visited group without any.
"""

from backthen.counts import linked
from backthen.errors import NotForest
from backthen.orders import covers, groups, tale_order

# More than any plan costs.
NEVER = 1000000


def plan_sum(one, other):
    """The plan that does what both plans do."""
    return (one[0] + other[0], one[1] + other[1], one[2] + other[2])


def dearer(plan, cost):
    """The plan at a greater cost."""
    return (plan[0] + cost, plan[1], plan[2])


def branch_plans(links, forced, root, parent):
    """The cheapest plans for the branch of the root, the parent's side left out.

    In the first one the root is not visited, in the second one it is, in the third
    one it is visited along the cover between it and the parent.
    """
    absent = (NEVER if root in forced else 0, (), ())
    # Plans by the number of branches that are walked into: none, odd, even.
    none, odd, even = (0, (root,), ()), (NEVER, (), ()), (NEVER, (), ())
    for child, _ in links[root]:
        if child != parent:
            child_absent, child_visited, child_entered = branch_plans(links, forced, child, root)
            absent = plan_sum(absent, child_visited)
            apart = min(child_absent, child_visited)
            walked = plan_sum(child_entered, (0, (), ((root, child),)))
            none, odd, even = (
                plan_sum(none, apart),
                min(plan_sum(odd, apart), plan_sum(none, walked), plan_sum(even, walked)),
                min(plan_sum(even, apart), plan_sum(odd, walked)),
            )
    visited = min(dearer(none, 2), dearer(odd, 1), even)
    entered = min(dearer(none, 1), odd, dearer(even, 1))
    return absent, visited, entered


def forest_plan(order):
    """The cheapest plan for a forest tale."""
    links = linked(list(range(len(order.groups))), order.cover_numbers())
    plan = (0, (), ())
    for part in order.component_numbers():
        absent, visited, _ = branch_plans(links, order.forced_numbers(), part[0], None)
        plan = plan_sum(plan, min(absent, visited))
    return plan


def follow(left, start):
    """The walk from start along covers that are left, as far as it goes; left keeps those beyond."""
    walk = [start]
    while left[walk[-1]]:
        here = walk[-1]
        there = left[here].pop()
        left[there].remove(here)
        walk.append(there)
    return walk


def plan_walks(visited, walked):
    """The walks of a plan: lists of numbers, each to be visited in turn."""
    left = {number: [] for number in visited}
    for one, other in walked:
        left[one].append(other)
        left[other].append(one)
    lone = [number for number in visited if not left[number]]
    walks = [[number] for number in lone]
    for number in visited:
        # As a forest has no rings, each walk ends at another group with an odd number left.
        if len(left[number]) % 2 == 1:
            walks.append(follow(left, number))
    return walks


def group_sentences(order, visited, walked):
    """For each visited group what is told there without moving on."""
    told = {number: [("with", moment) for moment in order.groups[number][1:]] for number in visited}
    for one, other in order.cover_numbers():
        if (one, other) not in walked and (other, one) not in walked:
            if one in told:
                told[one].append(("later", order.groups[other][0]))
            else:
                told[other].append(("earlier", order.groups[one][0]))
    return told


def shortest_tale(tale):
    """A tale of as few sentences as possible with the order of the forest tale."""
    order = tale_order(tale)
    if order.cycle_rank() != 0:
        raise NotForest()
    _, visited, walked = forest_plan(order)
    untold = group_sentences(order, visited, walked)
    told = []
    for walk in plan_walks(visited, walked):
        for i, number in enumerate(walk):
            word = "at"
            if i > 0:
                word = "then" if order.precedes(walk[i - 1], number) else "back"
            told.append((word, order.groups[number][0]))
            # Several walks may come through a group: the first one tells.
            told.extend(untold.pop(number, []))
    return tuple(told)


def shortest_length(tale):
    """The smallest number of sentences of a tale with the order of the forest tale."""
    return len(shortest_tale(tale))


def least_single(ones, others):
    """The least item that only one of the two lists has, None if there is none."""
    single = [item for item in ones if item not in others] + [item for item in others if item not in ones]
    return min(single, default=None)


def check_same_order(one, other):
    """None if the two tales have the same order, otherwise the least group or cover that only one has."""
    one_groups, other_groups = groups(one), groups(other)
    group = least_single(one_groups, other_groups)
    if group is not None:
        return ("group", group)
    cover = least_single(covers(one), covers(other))
    return None if cover is None else ("cover", cover[0], cover[1])
