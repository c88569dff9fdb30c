"""The groups of a tale and their precedence.

All that stands here takes tuples of sentences that are already known to be
sentences, the first of them with the word "at". They need not be consistent.
Groups go by their numbers: their indices in the ascending list of all groups.
A set of groups is an integer in which bit k stands for group k.
"""

MOVING_WORDS = ("at", "then", "back")
FORWARD_WORDS = ("then", "later")
BACKWARD_WORDS = ("back", "earlier")


def tale_stands(tale):
    """The moments at which the tale stands after each sentence."""
    stands = []
    for word, moment in tale:
        stands.append(moment if word in MOVING_WORDS else stands[-1])
    return stands


def tale_links(tale):
    """The relations of the sentences: tuples (first, second, strict).

    If strict is True, first is before second, otherwise they are at the same time.
    """
    links = []
    for stand, (word, moment) in zip([None] + tale_stands(tale), tale):
        if word == "with":
            links.append((stand, moment, False))
        elif word in FORWARD_WORDS:
            links.append((stand, moment, True))
        elif word in BACKWARD_WORDS:
            links.append((moment, stand, True))
    return links


def joined(things, pairs):
    """The parts into which chains of pairs join the things.

    Each part is an ascending tuple, and the parts are ascending.
    """
    parts = {thing: [thing] for thing in things}
    for one, other in pairs:
        if other not in parts[one]:
            part = parts[one] + parts[other]
            for thing in part:
                parts[thing] = part
    return sorted({tuple(sorted(part)) for part in parts.values()})


def closed(masks):
    """For each group all groups that chains of the given steps lead to."""
    for middle in range(len(masks)):
        # Behind each round all chains are closed that pass no group beyond the middle.
        masks = [mask | masks[middle] if mask >> middle & 1 else mask for mask in masks]
    return masks


class Order:
    """The groups of a tale, and which of them precede which."""

    def __init__(self, tale):
        links = tale_links(tale)
        same = [(first, second) for first, second, strict in links if not strict]
        self.groups = joined([moment for _, moment in tale], same)
        self.number = {moment: k for k, group in enumerate(self.groups) for moment in group}
        steps = [0] * len(self.groups)
        for first, second, strict in links:
            if strict:
                steps[self.number[first]] |= 1 << self.number[second]
        self.after = closed(steps)

    def precedes(self, one, other):
        """Whether group number one precedes group number other."""
        return self.after[one] >> other & 1 == 1

    def is_consistent(self):
        """Whether no group precedes itself."""
        return not any([self.precedes(k, k) for k in range(len(self.groups))])

    def group_number(self, thing):
        """The number of the group that equals thing, None if there is none."""
        for number, group in enumerate(self.groups):
            if group == thing:
                return number
        return None

    def later_numbers(self, number):
        """The ascending numbers of all groups that the group precedes."""
        return [k for k in range(len(self.groups)) if self.precedes(number, k)]

    def cover_numbers(self):
        """The ascending pairs of the numbers of all covers of a consistent tale."""
        pairs = []
        for number in range(len(self.groups)):
            beyond = 0
            later = self.later_numbers(number)
            for k in later:
                beyond |= self.after[k]
            pairs.extend([(number, k) for k in later if not beyond >> k & 1])
        return pairs

    def first_numbers(self):
        """The numbers of all groups in the order of the least timeline of a consistent tale."""
        numbers = []
        left = list(range(len(self.groups)))
        while left:
            blocked = 0
            for k in left:
                blocked |= self.after[k]
            least = min([k for k in left if not blocked >> k & 1])
            left.remove(least)
            numbers.append(least)
        return numbers
