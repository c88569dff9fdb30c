"""Tales for the tests, and a plain closing of all relations to hold results against.

Nothing here uses the package.
"""

import fractions
import itertools
import random
import time

WORDS = ("at", "then", "back", "later", "earlier", "with")
TELLER_NAMES = ("ana", "b", "bo", "cy", "dee", "zz")
NAMES = ("b", "a", "ab", "z", "aa", "ba", "c")

# Values of every kind of "anything" that are neither tuples, lists nor moments.
PLAIN_VALUES = (None, True, False, 0, 1, -3, "", "A", "a1", "abcdefghi", " a", "a\n")
# The like that are tuples or lists.
NESTED_VALUES = ((), [], ("a",), ["a"], (("a",),), [["a"]], (None, [1, ("at", "a")]), ["at", "a"])
ANYTHING = PLAIN_VALUES + NESTED_VALUES

# One tale for each kind of problem.
BAD_TALES = (
    (None, ("form",)),
    ([("at", "a")], ("form",)),
    ((("then", "a"),), ("sentence", 0)),
    ((("at", "a"), ("then", "B")), ("sentence", 1)),
    ((("at", "a"), ("then", "b"), ("then", "a")), ("cycle", 2)),
)

# One tuple of tellers for each kind of problem.
BAD_TELLERS = (
    (None, ("form",)),
    ((), ("form",)),
    ([("ana", ())], ("form",)),
    ((("ana", ()), ["bo", ()]), ("form",)),
    ((("ana", ()), ("B", ())), ("name", 1)),
    ((("ana", ()), ("ana", ())), ("name", 1)),
    ((("ana", ()), ("bo", [])), ("tale", 1, ("form",))),
    ((("ana", (("at", "a"), ("then", "a"))), ("bo", None)), ("tale", 0, ("cycle", 1))),
)

# One report for each kind of problem.
BAD_REPORTS = (
    (None, ("form",)),
    ([(1, ("at", "a"))], ("form",)),
    (((1, ("at", "a")), (1, ("at", "a"))), ("item", 1)),
    (((1, ("then", "a")),), ("item", 0)),
    (((True, ("at", "a")),), ("item", 0)),
    (((3, ("at", "a")), (4, ("then", "b")), (5, ("then", "a"))), ("cycle", 2)),
)


def plain_links(tale):
    """For each sentence (first, second, strict), or None if it has no relation."""
    links, stand = [], None
    for word, moment in tale:
        links.append({
            "at": None, "with": (stand, moment, False),
            "then": (stand, moment, True), "later": (stand, moment, True),
            "back": (moment, stand, True), "earlier": (moment, stand, True),
        }[word])
        if word in ("at", "then", "back"):
            stand = moment
    return links


def plain_steps(tale, moment):
    """All steps that may be taken from the moment: (index, the moment that it leads to)."""
    steps = []
    for index, link in enumerate(plain_links(tale)):
        if link is not None and link[0] == moment:
            steps.append((index, link[1]))
        elif link is not None and not link[2] and link[1] == moment:
            steps.append((index, link[0]))
    return steps


def plain_closing(tale):
    """(same, before): sets of pairs of moments, closed by trying all pairs until nothing is new."""
    same, before = {(moment, moment) for _, moment in tale}, set()
    for link in plain_links(tale):
        if link is not None and link[2]:
            before.add(link[:2])
        elif link is not None:
            same |= {link[:2], link[1::-1]}
    while True:
        more_same = chained(same, same) | same
        more_before = chained(before, before | same) | chained(same, before) | before
        if more_same == same and more_before == before:
            return same, before
        same, before = more_same, more_before


def chained(ones, others):
    """The pairs that a pair of ones and then a pair of others lead over."""
    return {(a, d) for a, b in ones for c, d in others if b == c}


def plain_consistent(tale):
    return not any(a == b for a, b in plain_closing(tale)[1])


def plain_cycle(tale):
    """The index of the first sentence with which the tale is inconsistent, or None."""
    for k in range(len(tale)):
        if not plain_consistent(tale[:k + 1]):
            return k
    return None


def plain_moments(tale):
    return sorted({moment for _, moment in tale})


def plain_groups(tale):
    same, _ = plain_closing(tale)
    return sorted({tuple(sorted(b for c, b in same if c == a)) for a in plain_moments(tale)})


def plain_precedence(tale):
    """The set of all pairs of groups (G, H) with G before H."""
    _, before = plain_closing(tale)
    found = plain_groups(tale)
    return {(g, h) for g in found for h in found if (g[0], h[0]) in before}


def plain_covers(tale):
    pairs = plain_precedence(tale)
    return sorted(pairs - chained(pairs, pairs))


def plain_components(tale):
    """The components, by spreading from each group over covers in both directions."""
    pairs = plain_covers(tale)
    left, found = plain_groups(tale), []
    while left:
        part = {left[0]}
        while True:
            more = {h for g, h in pairs if g in part} | {g for g, h in pairs if h in part} | part
            if more == part:
                break
            part = more
        found.append(sorted(part))
        left = [group for group in left if group not in part]
    return found


def plain_relation(tale, a, b):
    same, before = plain_closing(tale)
    for pairs, name in ((same, "same"), (before, "before")):
        if (a, b) in pairs:
            return name
    return "after" if (b, a) in before else "unknown"


def plain_timelines(tale):
    """All timelines of a small tale in ascending order."""
    pairs = plain_precedence(tale)
    return [
        line for line in itertools.permutations(plain_groups(tale))
        if not any((later, earlier) in pairs for earlier, later in itertools.combinations(line, 2))
    ]


def plain_arrangements(tale):
    """All tuples of all groups of a small tale, each a dict from the group to its index."""
    lines = itertools.permutations(plain_groups(tale))
    return [{group: i for i, group in enumerate(line)} for line in lines]


def plain_group(tale, moment):
    return next(group for group in plain_groups(tale) if moment in group)


def plain_forced(tale):
    """All groups that are isolated or have several moments, ascending."""
    linked = {group for pair in plain_covers(tale) for group in pair}
    return [group for group in plain_groups(tale) if len(group) > 1 or group not in linked]


def plain_reaches(tale, a, b):
    """Whether a is before b, or at the same time, by spreading from a over all sentences."""
    links, reached, fresh = plain_links(tale), {a}, [a]
    while fresh:
        here = fresh.pop()
        for link in links:
            if link is not None:
                first, second, strict = link
                for start, end in ((first, second),) if strict else ((first, second), (second, first)):
                    if start == here and end not in reached:
                        reached.add(end)
                        fresh.append(end)
    return b in reached


def plain_known(tale, a, b):
    """Whether the relation of the two moments is not "unknown"."""
    return plain_reaches(tale, a, b) or plain_reaches(tale, b, a)


def plain_candidates():
    """The candidates for fresh names: a, b, .., z, aa, ab and so on."""
    for length in itertools.count(1):
        for letters in itertools.product("abcdefghijklmnopqrstuvwxyz", repeat=length):
            yield "".join(letters)


def plain_fresh(sentences, many):
    """That many fresh names for the sentences."""
    taken = {moment for _, moment in sentences}
    free = (name for name in plain_candidates() if name not in taken)
    return list(itertools.islice(free, many))


def plain_jumps(sentences, indices):
    """The sentences with "at" and a fresh name ahead of each of the indices."""
    told = list(sentences)
    for index, name in sorted(zip(indices, plain_fresh(sentences, len(indices))), reverse=True):
        told.insert(index, ("at", name))
    return tuple(told)


def plain_gaps(report):
    """The indices in the heard tale of the sentences that stand for the gaps."""
    numbers = [0] + [number for number, _ in report]
    gaps = [i for i in range(len(report)) if numbers[i + 1] - numbers[i] > 1]
    return [gap + k for k, gap in enumerate(gaps)]


def plain_heard(report):
    """The heard tale of a report."""
    return plain_jumps([sentence for _, sentence in report], [gap - k for k, gap in enumerate(plain_gaps(report))])


def cut_report(source, tale):
    """A report of drawn parts of the tale."""
    share = source.random()
    return tuple((number, sentence) for number, sentence in enumerate(tale, 1) if source.random() < share)


def plain_fraction(numerator, denominator):
    found = fractions.Fraction(numerator, denominator)
    return (found.numerator, found.denominator)


def plain_check_timeline(tale, thing):
    """What check_timeline must return, read off the document line by line."""
    if not isinstance(thing, tuple):
        return ("form",)
    found = plain_groups(tale)
    for i, item in enumerate(thing):
        if item not in found or item in thing[:i]:
            return ("group", i)
    for group in found:
        if group not in thing:
            return ("missing", group)
    for g, h in plain_covers(tale):
        if thing.index(h) < thing.index(g):
            return ("order", g, h)
    return None


def drawn_sentences(source, length, names):
    """A tuple of sentences that begins with "at", consistent or not."""
    words = ["at"] + [source.choice(WORDS) for _ in range(length - 1)]
    return tuple((word, source.choice(names)) for word in words)


def drawn_any(seed, many, longest, names=NAMES):
    """Drawn tuples of sentences, most of them inconsistent if they are long."""
    source = random.Random(seed)
    return [drawn_sentences(source, source.randint(1, longest), names) for _ in range(many)]


def drawn_tales(seed, many, longest, names=NAMES):
    """Drawn consistent tales: a sentence that would close a cycle is left out."""
    tales = [()]
    for drawn in drawn_any(seed, many, longest, names):
        tale = ()
        for sentence in drawn:
            if plain_consistent(tale + (sentence,)):
                tale += (sentence,)
        tales.append(tale)
    return tales


def drawn_tellers(seed, many, longest, names=NAMES):
    """Drawn tellers, some of them in conflict: each tells a consistent tale over the same names."""
    source = random.Random(seed)
    tales = drawn_tales(seed, many * 3, longest, names)
    tellers = []
    for _ in range(many):
        told = sorted(source.sample(TELLER_NAMES, source.randint(1, 4)))
        tellers.append(tuple((name, source.choice(tales)) for name in told))
    return tellers


def joined(tellers):
    """All sentences of the tellers."""
    return tuple(sentence for _, tale in tellers for sentence in tale)


def joined_names(tellers):
    """For each sentence of all tellers (name, index)."""
    return [(name, index) for name, tale in tellers for index, _ in enumerate(tale)]


def drawn_forest(source, many, words=("later", "earlier")):
    """A forest tale of that many moments: each is linked to one ahead of it, or is told by "at"."""
    names = many_names(many)
    source.shuffle(names)
    tale = (("at", names[0]),)
    for k in range(1, many):
        if source.random() < 0.15:
            tale += (("at", names[k]),)
        else:
            tale += (("at", names[source.randrange(max(0, k - 6), k)]), (source.choice(words), names[k]))
    return tale


def drawn_pairs(source, names, many):
    """A tale that says of that many drawn pairs of the names that the lesser one is first."""
    tale = tuple(("at", name) for name in names)
    for _ in range(many):
        one, other = sorted(source.sample(names, 2))
        tale += (("at", one), ("later", other))
    return tale


def drawn_forests(seed, sizes, words=("later", "earlier")):
    """Drawn forest tales, one for each number of moments."""
    source = random.Random(seed)
    return [drawn_forest(source, many, words) for many in sizes]


def all_tales(length, names):
    """All tuples of that many sentences over the names that begin with "at"."""
    sentences = list(itertools.product(WORDS, names))
    firsts = [("at", name) for name in names]
    return itertools.product(firsts, *[sentences] * (length - 1))


def many_names(many):
    """That many different moments, ascending: "maa", "mab" and so on."""
    letters = "abcdefghijklmnopqrstuvwxyz"
    return ["m" + letters[k // 26] + letters[k % 26] for k in range(many)]


def chain(word, names):
    """The tale that walks over the names by one word."""
    return (("at", names[0]),) + tuple((word, name) for name in names[1:])


def layers(rows):
    """The tale in which every moment of a row is before every moment of the next row."""
    told = []
    for row, following in zip(rows, rows[1:]):
        for moment in row:
            told.append(("at", moment))
            told.extend(("later", other) for other in following)
    return tuple(told)


def zigzag(names):
    """The forest tale of one path that goes forward and back in turns."""
    return (("at", names[0]),) + tuple((("back", "then")[k % 2], names[k]) for k in range(1, len(names)))


def crown(names):
    """A tale with a cycle of covers: a before c and d, b before c and d, and more unrelated moments."""
    told = layers([names[:2], names[2:4]])
    return told + tuple(("at", name) for name in names[4:])


def padded(tale, length):
    """The tale with sentences that add no relation, up to that length."""
    return tale + (tale[0],) * (length - len(tale))


def limit_tales():
    """Tales of 200 sentences and 60 moments (or as many as their form allows), by name."""
    names = many_names(60)
    row = [names[k:k + 6] for k in range(0, 30, 6)]
    rings = layers(row) + tuple(("at", name) for name in names[30:])
    source = random.Random(60)
    drawn = [("at", names[0])]
    while len(drawn) < 200:
        one, other = sorted(source.sample(range(60), 2))
        drawn.extend([("at", names[one]), ("later", names[other])])
    return {
        "forward": padded(chain("then", names), 200),
        "backward": padded(chain("back", names), 200),
        "rewound": chain("then", names) * 3 + chain("then", names[:20]),
        "mentions": padded(chain("later", names), 200),
        "together": padded(chain("with", names), 200),
        "apart": padded(chain("at", names), 200),
        "layers": padded(rings, 200),
        "drawn": tuple(drawn[:200]),
    }


def assert_quick(case, call, *arguments):
    """The result of the call, which must come within a few seconds."""
    start = time.perf_counter()
    result = call(*arguments)
    case.assertLess(time.perf_counter() - start, 3.0)
    return result


def assert_plain(case, error, call, *arguments):
    """The call raises exactly this error, which has no field."""
    with case.assertRaises(error) as caught:
        call(*arguments)
    case.assertIs(type(caught.exception), error)


def assert_raises(case, error, field, value, call, *arguments):
    """The call raises exactly this error, whose field equals the value and has its kind."""
    with case.assertRaises(error) as caught:
        call(*arguments)
    case.assertIs(type(caught.exception), error)
    told = getattr(caught.exception, field)
    case.assertEqual((type(told), told), (type(value), value))
