"""Tales: checking, reading, writing, and the moments that they name."""

from backthen.errors import InvalidTale, InvalidText
from backthen.precedence import Order, tale_stands

WORDS = ("at", "then", "back", "later", "earlier", "with")
LETTERS = "abcdefghijklmnopqrstuvwxyz"
LONGEST_NAME = 8


def is_integer(thing):
    """Whether thing is an integer: True and False are none."""
    return isinstance(thing, int) and not isinstance(thing, bool)


def is_name(thing):
    """Whether thing is a string of one to eight letters from a to z."""
    if not isinstance(thing, str) or not 1 <= len(thing) <= LONGEST_NAME:
        return False
    return all([letter in LETTERS for letter in thing])


def is_pair(thing):
    """Whether thing is a tuple of two."""
    return isinstance(thing, tuple) and len(thing) == 2


def is_sentence(thing):
    """Whether thing is a tuple of one of the six words and a moment."""
    return is_pair(thing) and thing[0] in WORDS and is_name(thing[1])


def closing_index(tale):
    """The index of the sentence that makes an inconsistent tale so."""
    # Sentences only add relations, so every longer beginning is inconsistent, too.
    low, high = 0, len(tale) - 1
    while low < high:
        middle = (low + high) // 2
        if Order(tale[:middle + 1]).is_consistent():
            low = middle + 1
        else:
            high = middle
    return low


def check_tale(thing):
    """None if thing is a consistent tale, otherwise the first problem."""
    if not isinstance(thing, tuple):
        return ("form",)
    for k, sentence in enumerate(thing):
        if not is_sentence(sentence) or (k == 0 and sentence[0] != "at"):
            return ("sentence", k)
    if not Order(thing).is_consistent():
        return ("cycle", closing_index(thing))
    return None


def require_tale(tale):
    """Raise InvalidTale if tale is not a consistent tale."""
    problem = check_tale(tale)
    if problem is not None:
        raise InvalidTale(problem)


def require_text(lines):
    """Raise InvalidText(0) if lines is not a list of strings."""
    if not isinstance(lines, list) or not all([isinstance(line, str) for line in lines]):
        raise InvalidText(0)


def parse_tale(lines):
    """The tale that a list of lines holds."""
    require_text(lines)
    sentences = []
    for k, line in enumerate(lines):
        # Only the space separates; split() and strip() would take tabs as well.
        parts = [part for part in line.split(" ") if part != ""]
        if not parts or parts[0].startswith("#"):
            continue
        sentence = tuple(parts)
        if not is_sentence(sentence):
            raise InvalidText(k + 1)
        sentences.append(sentence)
    tale = tuple(sentences)
    require_tale(tale)
    return tale


def format_tale(tale):
    """The lines of a tale, one per sentence."""
    require_tale(tale)
    return [f"{word} {moment}" for word, moment in tale]


def stands(tale):
    """The moments at which the tale stands after each sentence."""
    require_tale(tale)
    return tale_stands(tale)


def moments(tale):
    """All moments of the tale in ascending order."""
    require_tale(tale)
    return sorted({moment for _, moment in tale})
