"""Fresh names, for moments that nobody named."""

from backthen.tales import LETTERS


def candidate(k):
    """Candidate number k of a, b, .., z, aa, ab and so on."""
    name = LETTERS[k % len(LETTERS)]
    while k >= len(LETTERS):
        k = k // len(LETTERS) - 1
        name = LETTERS[k % len(LETTERS)] + name
    return name


def fresh_names(sentences, many):
    """That many first candidates that are not moments of the sentences."""
    taken = [moment for _, moment in sentences]
    names = []
    k = 0
    while len(names) < many:
        name = candidate(k)
        if name not in taken:
            names.append(name)
        k += 1
    return names


def with_jumps(sentences, indices):
    """The sentences with an "at" sentence to a fresh moment ahead of each of the ascending indices."""
    names = dict(zip(indices, fresh_names(sentences, len(indices))))
    told = []
    for k, sentence in enumerate(sentences):
        if k in names:
            told.append(("at", names[k]))
        told.append(sentence)
    return tuple(told)
