"""Reports: what a listener heard of a tale, and what follows from it."""

from backthen.errors import InvalidReport, Mismatch, NoFit
from backthen.fresh import fresh_names, with_jumps
from backthen.precedence import Order, tale_stands
from backthen.tales import check_tale, is_integer, is_pair, is_sentence, require_tale

GREATEST_NUMBER = 10000


def is_item(thing):
    """Whether thing is a tuple of a number and a sentence that may have this number."""
    if not is_pair(thing) or not is_integer(thing[0]) or not is_sentence(thing[1]):
        return False
    return 1 <= thing[0] <= GREATEST_NUMBER and (thing[0] > 1 or thing[1][0] == "at")


def report_sentences(report):
    """The reported sentences in their order."""
    return [sentence for _, sentence in report]


def gap_indices(report):
    """The ascending indices of all items with a gap ahead of them."""
    expected = 1
    indices = []
    for i, (number, _) in enumerate(report):
        if number > expected:
            indices.append(i)
        expected = number + 1
    return indices


def heard_sentences(report):
    """The heard tale of a report that need not be consistent."""
    return with_jumps(report_sentences(report), gap_indices(report))


def check_report(thing):
    """None if thing is a consistent report, otherwise the first problem."""
    if not isinstance(thing, tuple):
        return ("form",)
    for i, item in enumerate(thing):
        if not is_item(item) or (i > 0 and item[0] <= thing[i - 1][0]):
            return ("item", i)
    # A report fits some consistent tale exactly if its heard tale is consistent.
    problem = check_tale(heard_sentences(thing))
    if problem is None:
        return None
    place = problem[1]
    jumps = [i for i, gap in enumerate(gap_indices(thing)) if gap + i < place]
    return ("cycle", place - len(jumps))


def require_report(report):
    """Raise InvalidReport if report is not a consistent report."""
    problem = check_report(report)
    if problem is not None:
        raise InvalidReport(problem)


def heard_tale(report):
    """The tale that the listener knows, with a fresh moment for each gap."""
    require_report(report)
    return heard_sentences(report)


def check_fit(report, tale):
    """None if the report fits the tale, otherwise the smallest number at which it does not."""
    require_report(report)
    require_tale(tale)
    for number, sentence in report:
        if number > len(tale) or tale[number - 1] != sentence:
            return number
    return None


def gap_stands(report, tale):
    """For each fresh name of the heard tale the moment at which the tale stands at the end of that gap."""
    wrong = check_fit(report, tale)
    if wrong is not None:
        raise NoFit(wrong)
    stands = tale_stands(tale)
    gaps = gap_indices(report)
    names = fresh_names(report_sentences(report), len(gaps))
    # The sentence ahead of number n has number n - 1, and so index n - 2.
    return {name: stands[report[gap][0] - 2] for name, gap in zip(names, gaps)}


def merge_reports(reports):
    """The report of all items of the reports of one tale."""
    for report in reports:
        require_report(report)
    sentences = {}
    wrong = []
    for report in reports:
        for number, sentence in report:
            if sentences.setdefault(number, sentence) != sentence:
                wrong.append(number)
    if wrong:
        raise Mismatch(min(wrong))
    merged = tuple([(number, sentences[number]) for number in sorted(sentences)])
    require_report(merged)
    return merged


def heard_pairs(report):
    """The ascending pairs (a, b) of reported moments such that a is before b in the heard tale."""
    # Fresh names are left out: they can be moments of another report.
    names = sorted({moment for _, moment in report_sentences(report)})
    return Order(heard_sentences(report)).before_pairs(names)


def gain(reports):
    """The ascending pairs (a, b) such that all reports together say that a is before b, and none alone."""
    merged = merge_reports(reports)
    known = {pair: True for report in reports for pair in heard_pairs(report)}
    return [pair for pair in heard_pairs(merged) if pair not in known]
