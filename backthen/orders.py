"""Orders: groups, covers, components, relations, and the least timeline."""

from backthen.errors import InvalidTimeline, UnknownMoment
from backthen.precedence import Order
from backthen.tales import require_tale


def tale_order(tale):
    """The order of a tale that is checked first."""
    require_tale(tale)
    return Order(tale)


def moment_number(order, name):
    """The number of the group of the moment called name."""
    # Only strings are looked up: a list, say, cannot be a key.
    if not isinstance(name, str) or name not in order.number:
        raise UnknownMoment(name)
    return order.number[name]


def groups(tale):
    """All groups of the tale in ascending order."""
    return tale_order(tale).groups


def covers(tale):
    """All covers (G, H) of the tale in ascending order."""
    order = tale_order(tale)
    return [(order.groups[one], order.groups[other]) for one, other in order.cover_numbers()]


def components(tale):
    """The components, each the ascending list of its groups, by their first groups."""
    order = tale_order(tale)
    return [[order.groups[number] for number in part] for part in order.component_numbers()]


def cycle_rank(tale):
    """The number of covers, less the groups, plus the components."""
    return tale_order(tale).cycle_rank()


def relation(tale, a, b):
    """How a stands to b: "before", "after", "same" or "unknown"."""
    order = tale_order(tale)
    one = moment_number(order, a)
    other = moment_number(order, b)
    if one == other:
        return "same"
    if order.precedes(one, other):
        return "before"
    if order.precedes(other, one):
        return "after"
    return "unknown"


def first_timeline(tale):
    """The least timeline of the tale."""
    order = tale_order(tale)
    return tuple([order.groups[number] for number in order.first_numbers()])


def check_timeline(tale, thing):
    """None if thing is a timeline of the tale, otherwise the first problem."""
    order = tale_order(tale)
    if not isinstance(thing, tuple):
        return ("form",)
    places = {}
    for i, item in enumerate(thing):
        number = order.group_number(item)
        if number is None or number in places:
            return ("group", i)
        places[number] = i
    for number, group in enumerate(order.groups):
        if number not in places:
            return ("missing", group)
    for one, other in order.cover_numbers():
        if places[other] < places[one]:
            return ("order", order.groups[one], order.groups[other])
    return None


def require_timeline(tale, timeline):
    """Raise InvalidTimeline if timeline is not a timeline of the tale."""
    problem = check_timeline(tale, timeline)
    if problem is not None:
        raise InvalidTimeline(problem)
