"""One PART alone: at which amounts of it a BOX runs away."""

from keepcompany.checks import taken_above, taken_width
from keepcompany.crossings import crossing_numbers
from keepcompany.errors import CanNot, NoPaper, TooMany, Unfit
from keepcompany.joints import KINDS, away, box_of, outside_of_both, part_shaped, stuck, taken_part
from keepcompany.ratios import ONE, ZERO, below, middle, minus, over, plus
from keepcompany.rims import curve_of, keeps
from keepcompany.shapes import taken_small
from keepcompany.spans import between_spans, ceiling, spans_of

NEAREST = (1, 10 ** 9)
FINEST = (1, 10 ** 31)
# Amounts with which most GIVERS run, tried ahead of the MARKS, which take long.
PLAIN = ((1, 1), (256, 1), (1, 256))


def taken_kind(value):
    """value, the kind of a PART; else Unfit."""
    if not isinstance(value, str) or value not in KINDS:
        raise Unfit()
    return value


def runs_all_over(box):
    """Whether box is a GIVER with the CURVE ()."""
    return not curve_of(box) and not keeps(box)


def refuse_kind(box, kind):
    if kind != "damper" and runs_all_over(box):
        raise CanNot()


def amount_stuck(box):
    """The amount at which each PART is STUCK with box; None if there is none."""
    lead = box[0][0]
    return None if lead[0] >= 0 else over((-1, 1), lead)


def holds_stuck(box, span):
    """Whether the amount at which box is STUCK lies in span, its ends with it."""
    held = amount_stuck(box)
    return held is not None and not below(held, span[0]) and not below(span[1], held)


def stretches(box, kind, width):
    """The pair of the MARKS and of whether the kind runs ahead of, between and behind them.

    The MARKS are spans no wider than width, and there are, but for a KEEPER,
    finitely many: it may not be what refuse_kind refuses.
    """
    if keeps(box):
        return [], [False]
    numbers = crossing_numbers(box, kind)
    top = (ceiling(numbers), 1)
    found = spans_of(numbers, ZERO, top, width)
    counts = [outside_of_both(box, box_of((kind, place))) for place in between_spans(found, ZERO, top)]
    kept = [k for k, span in enumerate(found) if counts[k] != counts[k + 1] or holds_stuck(box, span)]
    return [found[k] for k in kept], [counts[k] > 0 for k in [0] + [k + 1 for k in kept]]


def marks_apart(box, kind, width):
    """The same; TooMany if two MARKS are nearer than 1 / 10 ** 9."""
    own, runs = stretches(box, kind, width)
    near = [k for k in range(1, len(own)) if below(minus(own[k][0], own[k - 1][1]), NEAREST)]
    if near:
        fine = stretches(box, kind, FINEST)[0]
        if any([below(minus(fine[k][0], fine[k - 1][0]), NEAREST) for k in near]):
            raise TooMany()
    return own, runs


def taken_for_marks(box, kind, width):
    """MARKS and what runs, for arguments as they are handed in."""
    own, word, most = taken_small(box), taken_kind(kind), taken_width(width)
    refuse_kind(own, word)
    return marks_apart(own, word, most)


def marks(box, kind, width):
    """The list of pairs (low, high), one around each MARK of kind, ascending."""
    return taken_for_marks(box, kind, width)[0]


def spans(box, kind, width):
    """The list of pairs (start, end): the stretches between the MARKS that run."""
    own, runs = taken_for_marks(box, kind, width)
    starts = [ZERO] + [high for _, high in own]
    ends = [low for low, _ in own] + [None]
    return [(start, end) for start, end, ran in zip(starts, ends, runs) if ran]


def runs_with(box, part):
    """Whether box runs away with part."""
    own, held = taken_small(box), box_of(taken_part(part))
    return away(own, held)


def is_quiet(box, part):
    """Whether box neither runs away with part nor is STUCK with it."""
    own, held = taken_small(box), box_of(taken_part(part))
    return not stuck(own, held) and outside_of_both(own, held) == 0


def amount_that_runs(box, kind):
    """An amount of kind with which box runs away; None if there is none."""
    if keeps(box):
        return None
    numbers = crossing_numbers(box, kind)
    top = (ceiling(numbers), 1)
    for place in between_spans(spans_of(numbers, ZERO, top, ONE), ZERO, top):
        if outside_of_both(box, box_of((kind, place))) > 0:
            return place
    return None


def part_that_runs(box):
    """A PART with which box runs away; NoPaper if it is a KEEPER."""
    for kind in KINDS:
        amount = amount_that_runs(box, kind)
        if amount is not None:
            return kind, amount
    raise NoPaper()


def some_part(box):
    """A PART with which box runs away, one of plain amounts if it can be; NoPaper if it is a KEEPER."""
    if not keeps(box):
        for amount in PLAIN:
            for kind in KINDS:
                if away(box, box_of((kind, amount))):
                    return kind, amount
    return part_that_runs(box)


def one_part(box):
    """A PART with which box runs away."""
    return some_part(taken_small(box))


def is_one_part(box, thing):
    """Whether thing is a PART with which box runs away."""
    own = taken_small(box)
    return part_shaped(thing) and away(own, box_of(thing))


def one_of_kind(box, kind):
    """An amount of kind with which box runs away; None if there is none."""
    own, word = taken_small(box), taken_kind(kind)
    refuse_kind(own, word)
    return amount_that_runs(own, word)


def kinds_that_run(box):
    """The set of the kinds with which box runs away at some amount."""
    own = taken_small(box)
    if runs_all_over(own):
        raise CanNot()
    return tuple([kind for kind in KINDS if amount_that_runs(own, kind) is not None])


def stuck_amount(box):
    """The amount at which each PART is STUCK with box; None if there is none."""
    return amount_stuck(taken_small(box))


def least_amount(box, kind, width):
    """A pair (low, high): the kind runs at no amount up to low, at some up to high."""
    own, runs = taken_for_marks(box, kind, width)
    most = taken_width(width)
    if not any(runs):
        raise CanNot()
    first = runs.index(True)
    low, start = own[first - 1] if first > 0 else (ZERO, ZERO)
    high = plus(low, most)
    if first < len(own):
        # Not beyond the next MARK, so that the kind runs at high, too.
        inner = middle(start, own[first][0])
        high = inner if below(inner, high) else high
    return low, high


def part_for_times(factor, part):
    """The PART with its amount divided by factor."""
    by = taken_above(factor)
    kind, amount = taken_part(part)
    return kind, over(amount, by)
