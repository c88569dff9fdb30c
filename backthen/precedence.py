"""The groups of a tale and their precedence.

All that stands here takes tuples of sentences that are already known to be
sentences, the first of them with the word "at". They need not be consistent.
Groups go by their numbers: their indices in the ascending list of all groups.
A set of groups is an integer in which bit k stands for group k.
"""

MOVING_WORDS = ("at", "then", "back")
FORWARD_WORDS = ("then", "later")
BACKWARD_WORDS = ("back", "earlier")


def tale_stands(tale):
    """The moments at which the tale stands after each sentence."""
    stands = []
    for word, moment in tale:
        stands.append(moment if word in MOVING_WORDS else stands[-1])
    return stands


def sentence_link(stand, word, moment):
    """The relation of a sentence: a tuple (first, second, strict), None if it has none.

    If strict is True, first is before second, otherwise they are at the same time.
    """
    if word == "with":
        return (stand, moment, False)
    if word in FORWARD_WORDS:
        return (stand, moment, True)
    if word in BACKWARD_WORDS:
        return (moment, stand, True)
    return None


def tale_links(tale):
    """The relation of each sentence of the tale."""
    return [sentence_link(stand, *sentence) for stand, sentence in zip([None] + tale_stands(tale), tale)]


def joined(things, pairs):
    """The parts into which chains of pairs join the things.

    Each part is an ascending tuple, and the parts are ascending.
    """
    parts = {thing: [thing] for thing in things}
    for one, other in pairs:
        if other not in parts[one]:
            part = parts[one] + parts[other]
            for thing in part:
                parts[thing] = part
    return sorted({tuple(sorted(part)) for part in parts.values()})


def closed(masks):
    """For each group all groups that chains of the given steps lead to."""
    for middle in range(len(masks)):
        # Behind each round all chains are closed that pass no group beyond the middle.
        masks = [mask | masks[middle] if mask >> middle & 1 else mask for mask in masks]
    return masks


class Order:
    """The groups of a tale, and which of them precede which."""

    def __init__(self, tale):
        links = [link for link in tale_links(tale) if link is not None]
        same = [(first, second) for first, second, strict in links if not strict]
        self.groups = joined([moment for _, moment in tale], same)
        self.number = {moment: k for k, group in enumerate(self.groups) for moment in group}
        steps = [0] * len(self.groups)
        for first, second, strict in links:
            if strict:
                steps[self.number[first]] |= 1 << self.number[second]
        self.after = closed(steps)

    def precedes(self, one, other):
        """Whether group number one precedes group number other."""
        return self.after[one] >> other & 1 == 1

    def unrelated(self, one, other):
        """Whether neither of the two different groups precedes the other."""
        return not self.precedes(one, other) and not self.precedes(other, one)

    def is_consistent(self):
        """Whether no group precedes itself."""
        return not any([self.precedes(k, k) for k in range(len(self.groups))])

    def group_number(self, thing):
        """The number of the group that equals thing, None if there is none."""
        for number, group in enumerate(self.groups):
            if group == thing:
                return number
        return None

    def later_numbers(self, number):
        """The ascending numbers of all groups that the group precedes."""
        return [k for k in range(len(self.groups)) if self.precedes(number, k)]

    def cover_numbers(self):
        """The ascending pairs of the numbers of all covers of a consistent tale."""
        pairs = []
        for number in range(len(self.groups)):
            beyond = 0
            later = self.later_numbers(number)
            for k in later:
                beyond |= self.after[k]
            pairs.extend([(number, k) for k in later if not beyond >> k & 1])
        return pairs

    def component_numbers(self):
        """The components, each the ascending tuple of the numbers of its groups."""
        return joined(list(range(len(self.groups))), self.cover_numbers())

    def cycle_rank(self):
        """The number of covers, less the groups, plus the components."""
        return len(self.cover_numbers()) - len(self.groups) + len(self.component_numbers())

    def forced_numbers(self):
        """The ascending numbers of all groups that are isolated or have several moments."""
        covered = [k for pair in self.cover_numbers() for k in pair]
        return [k for k, group in enumerate(self.groups) if len(group) > 1 or k not in covered]

    def before_pairs(self, moments):
        """The ascending pairs (a, b) of the ascending moments such that a is before b."""
        return [(a, b) for a in moments for b in moments if self.precedes(self.number[a], self.number[b])]

    def next_numbers(self, front):
        """The ascending numbers of all groups that can stand next behind those of a front.

        A front is a set of groups that holds all groups that precede one of them.
        """
        barred = front
        for number, later in enumerate(self.after):
            if not front >> number & 1:
                barred |= later
        return [k for k in range(len(self.groups)) if not barred >> k & 1]

    def first_numbers(self):
        """The numbers of all groups in the order of the least timeline of a consistent tale."""
        numbers = []
        front = 0
        for _ in self.groups:
            least = self.next_numbers(front)[0]
            numbers.append(least)
            front |= 1 << least
        return numbers
