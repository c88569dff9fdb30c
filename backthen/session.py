"""Sessions: tellers who tell one sentence at a time."""

from backthen.errors import Conflict, InvalidName, NothingToUndo, TooManyTellers
from backthen.tales import is_name, require_tale
from backthen.tellers import (
    MOST_TELLERS, explain_joined, joined_order, joined_tale, relate_joined, tellers_ring,
)


def grouped(kept):
    """The tellers of the kept sentences: tuples (name, tale), names ascending."""
    tales = {}
    for name, sentence in kept:
        tales.setdefault(name, []).append(sentence)
    return tuple([(name, tuple(tales[name])) for name in sorted(tales)])


def before_pairs(kept):
    """The ascending pairs (a, b) of which the kept sentences say that a is before b."""
    order = joined_order(grouped(kept))
    return order.before_pairs(sorted(order.number))


class Session:
    """The sentences that were told, in the order in which they were told."""

    def __init__(self):
        self._kept = []
        # Whether the last change was a sentence that was told: only then is there news.
        self._has_news = False

    def __eq__(self, other):
        return isinstance(other, Session) and grouped(self._kept) == grouped(other._kept)

    def __len__(self):
        return len(self._kept)

    def tell(self, teller, sentence):
        """Add the sentence to the teller's tale."""
        if not is_name(teller):
            raise InvalidName(teller)
        kept = self._kept + [(teller, sentence)]
        told = grouped(kept)
        for name, tale in told:
            if name == teller:
                require_tale(tale)
        if len(told) > MOST_TELLERS:
            raise TooManyTellers()
        ring = tellers_ring(told)
        if ring is not None:
            raise Conflict(ring)
        self._kept = kept
        self._has_news = True

    def undo(self):
        """Remove the sentence that was told last."""
        if not self._kept:
            raise NothingToUndo()
        self._kept.pop()
        self._has_news = False

    def tellers(self):
        """The tellers of whom a sentence is kept."""
        return grouped(self._kept)

    def tale(self):
        """The joined tale of the tellers."""
        return joined_tale(grouped(self._kept))

    def relation(self, a, b):
        """The relation of a and b in the joined tale."""
        return relate_joined(grouped(self._kept), a, b)

    def explain_relation(self, a, b):
        """The relation of a and b with evidence; steps of chains are (name, index)."""
        return explain_joined(grouped(self._kept), a, b)

    def news(self):
        """The ascending pairs (a, b) with a before b that the sentence told last has added."""
        if not self._has_news:
            return []
        known = {pair: True for pair in before_pairs(self._kept[:-1])}
        return [pair for pair in before_pairs(self._kept) if pair not in known]

    def copy(self):
        """A session of its own that answers every call as this one does."""
        twin = Session()
        twin._kept = list(self._kept)
        twin._has_news = self._has_news
        return twin
