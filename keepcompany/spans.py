"""The roots of a polynomial of whole numbers, each in a span of its own."""

from keepcompany.ratios import below, middle, minus, reduced
from keepcompany.steps import first_above
from keepcompany.wholepolys import chain_of, changes_at, sign_at, simple, slope


def spans_of(p, low, high, width):
    """The tuple of pairs (l, r), one for each root of p between low and high."""
    one = simple(p)
    chain = chain_of(one, slope(one))
    out = []
    # Stretches still to be looked at, the last one first; what stands at an
    # end of each is how often the sign changes along the chain there.
    left = [(low, changes_at(chain, low), high, changes_at(chain, high))]
    while left:
        start, more, end, less = left.pop()
        count = more - less
        if sign_at(one, end) == 0:
            count -= 1
        if start == end:
            out.append((start, end))
        elif count == 1:
            out.append(narrowed(one, start, end, width))
        elif count > 1:
            place = middle(start, end)
            at = changes_at(chain, place)
            left.append((place, at, end, less))
            if sign_at(one, place) == 0:
                left.append((place, at, place, at))
            left.append((start, more, place, at))
    return tuple(out)


def outgrows(p, k):
    """Whether at 2 ** k the last term of p is greater than all others together."""
    sizes = [abs(own) << (k * at) for at, own in enumerate(p)]
    return sizes[-1] > sum(sizes[:-1])


def ceiling(p):
    """A number, a power of 2, above the size of each zero of p, real or not."""
    most = max([abs(own) for own in p]) // abs(p[-1])
    return 1 << first_above(-1, most.bit_length() + 1, lambda k: outgrows(p, k))


def between_spans(spans, low, high):
    """The middles of what spans leave between low and high, one more than there are spans."""
    starts = [low] + [own[1] for own in spans]
    ends = [own[0] for own in spans] + [high]
    return [middle(start, end) for start, end in zip(starts, ends)]


def sign_behind(p, x):
    """The sign of p, whose zeros are unlike, just above x."""
    here = sign_at(p, x)
    return here if here != 0 else sign_at(slope(p), x)


def narrowed(p, start, end, width):
    """The span of the only root strictly between start and end.

    Both ends are moved at least once: start and end may be roots themselves,
    or ends that the span may not touch.
    """
    sign = sign_behind(p, start)
    low, high = start, end
    while low == start or high == end or below(width, minus(high, low)):
        place = middle(low, high)
        here = sign_at(p, place)
        if here == 0:
            return (place, place)
        if here == sign:
            low = place
        else:
            high = place
    return (low, high)


def fraction_roots(p, low, high):
    """The list of the roots of p strictly between low and high that are FRACTIONS."""
    one = simple(p)
    lead = one[-1]
    out = []
    for start, end in spans_of(one, low, high, (1, 2 * lead)):
        # Such a root times lead is a whole number, and no span holds two.
        place = start if start == end else reduced(start[0] * lead // start[1] + 1, lead)
        if sign_at(one, place) == 0 and not below(end, place):
            out.append(place)
    return out
