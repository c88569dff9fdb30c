"""Roads: chains of groups along which a straight tale can tell the order.

Groups go by their numbers, as in precedence.py. Whether they are on the road
goes by states: state k says that group k is on it, state size + k that group k
is off it. An arc from state to state says that the first one enforces the other.
"""

from backthen.errors import NoRoad
from backthen.evidence import least_walk
from backthen.orders import covers, tale_order
from backthen.precedence import closed
from backthen.tales import is_pair


def road_arcs(order):
    """What the states of the groups enforce: arcs (end, start, end)."""
    size = len(order.groups)
    arcs = []
    for one in range(size):
        for other in range(size):
            if one != other and order.unrelated(one, other):
                arcs.append((size + other, one, size + other))
    for one, other in order.cover_numbers():
        arcs.append((other, size + one, other))
        arcs.append((one, size + other, one))
    for number in order.forced_numbers():
        arcs.append((number, size + number, number))
    return arcs


def enforced_states(arcs, many):
    """For each of that many states the set of all states that it enforces, as an integer."""
    masks = [0] * many
    for _, start, end in arcs:
        masks[start] |= 1 << end
    return closed(masks)


def torn_number(enforced, size):
    """The least number of a group that can be neither on a road nor off it, None if there is none."""
    for number in range(size):
        if enforced[number] >> size + number & 1 and enforced[size + number] >> number & 1:
            return number
    return None


def road_numbers(order, enforced):
    """The numbers of the groups on the road, in the order of precedence; there must be a road."""
    size = len(order.groups)
    states = 0
    road = []
    for number in range(size):
        tried = states | 1 << size + number | enforced[size + number]
        # As there is a road, states that do not contradict each other are those of some road.
        if tried & tried >> size:
            road.append(number)
        else:
            states = tried
    return [number for number in order.first_numbers() if number in road]


def find_road(tale):
    """("road", groups) with the road of the tale, or ("none", walk) if it has none."""
    order = tale_order(tale)
    size = len(order.groups)
    arcs = road_arcs(order)
    enforced = enforced_states(arcs, 2 * size)
    torn = torn_number(enforced, size)
    if torn is None:
        return ("road", tuple([order.groups[number] for number in road_numbers(order, enforced)]))
    states = (torn,) + least_walk(arcs, torn, size + torn) + least_walk(arcs, size + torn, torn)
    return ("none", tuple([order.groups[state % size] for state in states]))


def road_problem(order, numbers):
    """None if the groups with these numbers are a road, otherwise the first problem."""
    for i in range(len(numbers) - 1):
        if not order.precedes(numbers[i], numbers[i + 1]):
            return ("chain", i)
    for number in order.forced_numbers():
        if number not in numbers:
            return ("forced", order.groups[number])
    for one, other in order.cover_numbers():
        if one not in numbers and other not in numbers:
            return ("cover", order.groups[one], order.groups[other])
    return None


def walk_problem(order, numbers):
    """None if the groups with these numbers are a walk, otherwise the first problem."""
    if len(numbers) % 2 == 0 or numbers[0] != numbers[-1]:
        return ("ends",)
    pairs = order.cover_numbers()
    forced = order.forced_numbers()
    for i in range(1, len(numbers)):
        one, other = numbers[i - 1], numbers[i]
        if i % 2 == 1:
            fits = one != other and order.unrelated(one, other)
        else:
            fits = (one, other) in pairs or (other, one) in pairs or (one == other and one in forced)
        if not fits:
            return ("walk", i)
    if numbers[0] not in numbers[1::2]:
        return ("odd",)
    return None


def check_road(tale, thing):
    """None if thing shows that the tale has a road, or that it has none, otherwise the first problem."""
    order = tale_order(tale)
    if not is_pair(thing) or thing[0] not in ("road", "none") or not isinstance(thing[1], tuple):
        return ("form",)
    numbers = [order.group_number(item) for item in thing[1]]
    if None in numbers:
        return ("group", numbers.index(None))
    if thing[0] == "road":
        return road_problem(order, numbers)
    return walk_problem(order, numbers)


def straight_tale(tale):
    """A straight tale of the same order, told along the road."""
    word, road = find_road(tale)
    if word == "none":
        raise NoRoad()
    pairs = covers(tale)
    told = []
    for i, group in enumerate(road):
        told.append(("at" if i == 0 else "then", group[0]))
        told.extend([("with", moment) for moment in group[1:]])
        # What is off the road is not forced, so it has a single moment.
        told.extend([("earlier", one[0]) for one, other in pairs if other == group and one not in road])
        told.extend([("later", other[0]) for one, other in pairs if one == group and other not in road])
    return tuple(told)
