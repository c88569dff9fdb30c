"""Settling: finding the true timeline by asking for the order of two groups at a time."""

from backthen.counts import count_timelines
from backthen.errors import InvalidAnswer, NoQuestion, NothingToUndo, TooLarge
from backthen.orders import first_timeline, require_timeline, tale_order
from backthen.ranking import middle_pair

MOST_SETTLED_GROUPS = 8


class Settler:
    """A tale and the answers that were given about it."""

    def __init__(self, tale):
        if len(tale_order(tale).groups) > MOST_SETTLED_GROUPS:
            raise TooLarge()
        self._start = tale
        self._given = []

    def __eq__(self, other):
        return isinstance(other, Settler) and self._start == other._start and self._given == other._given

    def question(self):
        """The two moments whose order is asked for, None if only one timeline is left."""
        found = middle_pair(self.tale())
        return None if found is None else found[:2]

    def answer(self, first):
        """Say which of the two moments of the question comes first."""
        asked = self.question()
        if asked is None:
            raise NoQuestion()
        if first not in asked:
            raise InvalidAnswer(first)
        a, b = asked
        self._given.append((a, b) if first == a else (b, a))

    def undo(self):
        """Remove the last answer."""
        if not self._given:
            raise NothingToUndo()
        self._given.pop()

    def remaining(self):
        """The number of timelines that are left."""
        return count_timelines(self.tale())

    def answers(self):
        """All answers in their order: tuples (first, second)."""
        return list(self._given)

    def tale(self):
        """The tale, and the sentences that tell the answers."""
        told = [sentence for first, second in self._given for sentence in (("at", first), ("then", second))]
        return self._start + tuple(told)

    def result(self):
        """The timeline if only one is left, otherwise None."""
        return first_timeline(self.tale()) if self.question() is None else None

    def copy(self):
        """A settler of its own with the same tale and answers."""
        twin = Settler(self._start)
        twin._given = list(self._given)
        return twin


def settle(tale, timeline):
    """All answers that a settler needs to find the timeline."""
    require_timeline(tale, timeline)
    settler = Settler(tale)
    places = {moment: place for place, group in enumerate(timeline) for moment in group}
    asked = settler.question()
    while asked is not None:
        a, b = asked
        settler.answer(a if places[a] < places[b] else b)
        asked = settler.question()
    return settler.answers()
