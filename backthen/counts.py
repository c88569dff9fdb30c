"""Counts: timelines, places, shares, and evidence for the share in a forest tale.

Groups go by their numbers, sets of groups by integers, as in precedence.py. A
front is a set of groups that holds all groups that precede one of them.
"""

from math import comb, gcd

from backthen.errors import NotForest, TooLarge
from backthen.orders import moment_number, tale_order
from backthen.precedence import joined
from backthen.tales import is_integer, is_pair

MOST_GROUPS = 12
MOST_FOREST_GROUPS = 60


class FrontCounts:
    """The counts of an order of few groups, by all of its fronts."""

    def __init__(self, order):
        self.size = len(order.groups)
        # In how many ways the groups of a front can be ordered, and those behind it.
        self.heads = [1] + [0] * ((1 << self.size) - 1)
        self.tails = [0] * (1 << self.size)
        self.tails[-1] = 1
        followers = [order.next_numbers(front) for front in range(1 << self.size)]
        for front, numbers in enumerate(followers):
            for k in numbers:
                self.heads[front | 1 << k] += self.heads[front]
        for front in reversed(range(len(followers) - 1)):
            if self.heads[front] > 0:
                self.tails[front] = sum([self.tails[front | 1 << k] for k in followers[front]])

    def turns(self, number):
        """Tuples (front, n): in n timelines the group stands right behind the groups of the front."""
        fronts = [front for front in range(len(self.heads)) if not front >> number & 1]
        return [(front, self.heads[front] * self.tails[front | 1 << number]) for front in fronts]

    def total(self):
        """The number of timelines."""
        return self.tails[0]

    def places(self, number):
        """For each index the number of timelines in which the group stands there."""
        counts = [0] * self.size
        for front, ways in self.turns(number):
            if ways > 0:
                counts[sum([front >> k & 1 for k in range(self.size)])] += ways
        return counts

    def ahead(self, one, other):
        """The number of timelines in which a group stands ahead of a different one."""
        return sum([ways for front, ways in self.turns(one) if not front >> other & 1])

    def behind(self, front):
        """The number of timelines of the groups that are not in the front."""
        return self.tails[front]


def linked(numbers, pairs):
    """For each number its neighbours in the pairs: tuples (neighbour, is_later)."""
    links = {number: [] for number in numbers}
    for one, other in pairs:
        links[one].append((other, True))
        links[other].append((one, False))
    return links


def running_sums(counts):
    """The sums of the first 0, 1, 2 .. counts."""
    sums = [0]
    for count in counts:
        sums.append(sums[-1] + count)
    return sums


def spread(places, ahead):
    """The place counts of a group when other groups are added to its arrangements.

    Item j of ahead is the number of orders of the others of which j may stand ahead of the group.
    """
    counts = [0] * (len(places) + len(ahead) - 1)
    for i, ways in enumerate(places):
        behind = len(places) - 1 - i
        for j, more in enumerate(ahead):
            rest = len(ahead) - 1 - j
            counts[i + j] += ways * more * comb(i + j, j) * comb(behind + rest, rest)
    return counts


def branch_places(links, root, parent):
    """The place counts of the root in the arrangements of its branch, the parent's side left out."""
    places = [1]
    for number, is_later in links[root]:
        if number != parent:
            sums = running_sums(branch_places(links, number, root))
            # Where the neighbour is later, it is not among those of its branch that stand ahead.
            ahead = [sums[-1] - part for part in sums] if is_later else sums
            places = spread(places, ahead)
    return places


def forest_count(numbers, pairs):
    """The number of arrangements of the numbers in which each pair stands in its order.

    The pairs must not form a ring, whichever way they are followed.
    """
    links = linked(numbers, pairs)
    size, count = 0, 1
    for part in joined(numbers, pairs):
        size += len(part)
        count *= comb(size, len(part)) * sum(branch_places(links, part[0], None))
    return count


def forest_path(links, start, goal, parent):
    """The numbers on the path from start to goal; an empty list if there is none."""
    if start == goal:
        return [start]
    for number, _ in links[start]:
        if number != parent:
            path = forest_path(links, number, goal, start)
            if path:
                return [start] + path
    return []


class ForestCounts:
    """The counts of the order of a forest tale."""

    def __init__(self, order):
        self.numbers = list(range(len(order.groups)))
        self.pairs = order.cover_numbers()

    def total(self):
        """The number of timelines."""
        return forest_count(self.numbers, self.pairs)

    def places(self, number):
        """For each index the number of timelines in which the group stands there."""
        places = branch_places(linked(self.numbers, self.pairs), number, None)
        part = [numbers for numbers in joined(self.numbers, self.pairs) if number in numbers][0]
        others = [k for k in self.numbers if k not in part]
        count = forest_count(others, [pair for pair in self.pairs if pair[0] in others])
        return spread(places, [count] * (len(others) + 1))

    def terms(self, one, other):
        """The terms of share_terms, with numbers in place of groups."""
        path = forest_path(linked(self.numbers, self.pairs), one, other, None)
        if not path:
            return [(None, forest_count(self.numbers, self.pairs + [(one, other)]))]
        rising = [pair for pair in zip(path, path[1:]) if pair in self.pairs]
        terms = []
        for i, pair in enumerate(rising):
            reverse = [(second, first) for first, second in rising[:i]]
            others = [kept for kept in self.pairs if kept not in rising[:i + 1]]
            # Without the cover itself the path is open, so that one ahead of other closes no ring.
            terms.append((pair, forest_count(self.numbers, others + reverse + [(one, other)])))
        return terms

    def ahead(self, one, other):
        """The number of timelines in which a group stands ahead of a different one."""
        counts = [count for _, count in self.terms(one, other)]
        return sum(counts[::2]) - sum(counts[1::2])

    def behind(self, front):
        """The number of timelines of the groups that are not in the front."""
        left = [k for k in self.numbers if not front >> k & 1]
        return forest_count(left, [pair for pair in self.pairs if pair[0] in left])


def order_counts(order, most_forest_groups):
    """The counts of an order; raises TooLarge where it has too many groups."""
    size = len(order.groups)
    if size <= most_forest_groups and order.cycle_rank() == 0:
        return ForestCounts(order)
    if size <= MOST_GROUPS:
        return FrontCounts(order)
    raise TooLarge()


def fraction(numerator, denominator):
    """The fraction in lowest terms; the denominator is at least 1."""
    divisor = gcd(numerator, denominator)
    return (numerator // divisor, denominator // divisor)


def count_timelines(tale):
    """The number of timelines of the tale."""
    return order_counts(tale_order(tale), MOST_FOREST_GROUPS).total()


def place_counts(tale, a):
    """For each index the number of timelines in which a's group stands there."""
    order = tale_order(tale)
    number = moment_number(order, a)
    return order_counts(order, MOST_FOREST_GROUPS).places(number)


def mean_place(tale, a):
    """The average index of a's group over all timelines."""
    counts = place_counts(tale, a)
    return fraction(sum([i * count for i, count in enumerate(counts)]), sum(counts))


def share(tale, a, b):
    """The share of the timelines in which a's group stands ahead of b's."""
    order = tale_order(tale)
    one = moment_number(order, a)
    other = moment_number(order, b)
    counts = order_counts(order, MOST_FOREST_GROUPS)
    if one == other:
        return (0, 1)
    return fraction(counts.ahead(one, other), counts.total())


def share_terms(tale, a, b):
    """Evidence for the share in a forest tale: a tuple of terms (cover, n)."""
    order = tale_order(tale)
    one = moment_number(order, a)
    other = moment_number(order, b)
    counts = order_counts(order, MOST_FOREST_GROUPS)
    if order.cycle_rank() != 0:
        raise NotForest()
    terms = []
    for pair, count in counts.terms(one, other):
        cover = None if pair is None else (order.groups[pair[0]], order.groups[pair[1]])
        terms.append((cover, count))
    return tuple(terms)


def check_share_terms(tale, a, b, thing):
    """None if thing is what share_terms returns, otherwise the first problem."""
    terms = share_terms(tale, a, b)
    if not isinstance(thing, tuple) or not all([is_pair(item) for item in thing]):
        return ("form",)
    if len(thing) != len(terms):
        return ("length",)
    for i, (cover, _) in enumerate(terms):
        if thing[i][0] != cover:
            return ("cover", i)
    for i, (_, count) in enumerate(terms):
        if not is_integer(thing[i][1]) or thing[i][1] != count:
            return ("count", i)
    return None
