"""Ranking: timelines by their numbers, and the pair of groups that is least certain."""

from backthen.counts import MOST_GROUPS, FrontCounts, fraction, order_counts
from backthen.errors import OutOfRange, TooLarge
from backthen.orders import require_timeline, tale_order
from backthen.tales import is_integer

MOST_FOREST_GROUPS = 40


def nth_numbers(order, counts, k):
    """The numbers of the groups of the timeline with number k."""
    numbers = []
    front = 0
    for _ in order.groups:
        choices = order.next_numbers(front)
        ways = [counts.behind(front | 1 << number) for number in choices]
        i = 0
        while k >= ways[i]:
            k -= ways[i]
            i += 1
        numbers.append(choices[i])
        front |= 1 << choices[i]
    return numbers


def nth_timeline(tale, k):
    """The timeline with number k."""
    order = tale_order(tale)
    counts = order_counts(order, MOST_FOREST_GROUPS)
    total = counts.total()
    if not is_integer(k) or not 0 <= k < total:
        raise OutOfRange(total)
    return tuple([order.groups[number] for number in nth_numbers(order, counts, k)])


def timeline_rank(tale, timeline):
    """The number of the timeline."""
    order = tale_order(tale)
    require_timeline(tale, timeline)
    counts = order_counts(order, MOST_FOREST_GROUPS)
    rank = 0
    front = 0
    for group in timeline:
        number = order.number[group[0]]
        less = [k for k in order.next_numbers(front) if k < number]
        rank += sum([counts.behind(front | 1 << k) for k in less])
        front |= 1 << number
    return rank


def middle_pair(tale):
    """The two unrelated groups whose order is least certain, by their least moments, and the share."""
    order = tale_order(tale)
    size = len(order.groups)
    if size > MOST_GROUPS:
        raise TooLarge()
    counts = FrontCounts(order)
    total = counts.total()
    if total == 1:
        return None
    found = []
    for one in range(size):
        for other in range(one + 1, size):
            if order.unrelated(one, other):
                ahead = counts.ahead(one, other)
                found.append((abs(2 * ahead - total), one, other, ahead))
    _, one, other, ahead = min(found)
    return (order.groups[one][0], order.groups[other][0], fraction(ahead, total))
