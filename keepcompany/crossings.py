"""At which amounts of a PART zeros of the LOOP come to the rim.

The LOOP is F + x G for the amount x. On the rim, c the cosine, F times what G
is upside down has a level part, which hangs on c alone, and an upright one,
which is the sine times a POLY in c. Where a zero lies on the rim the upright
part is 0, and the level part and x times the square of G's size are 0 together.
"""

from keepcompany.grids import determinant, whole_solved
from keepcompany.joints import box_of
from keepcompany.polys import added, multiplied, parted, scaled, shared_part, valued
from keepcompany.ratios import ONE, ZERO, dot, middle, minus, wholes
from keepcompany.rims import HIGH, LOW, poly_of_sums
from keepcompany.shapes import polys_of
from keepcompany.wholepolys import bare, cut, product_of, slope


def loop_parts(box, kind):
    """The pair of POLYS F and G: F + x G is the LOOP of box and the PART of kind and amount x."""
    tops, bottoms = polys_of(box)
    tops_too, bottoms_too = polys_of(box_of((kind, ONE)))
    return multiplied(bottoms, bottoms_too), multiplied(tops, tops_too)


def products_apart(p, q, many):
    """For each k below many what p at k places on and q come to, multiplied and added up."""
    return tuple([dot(p[k:], q) for k in range(many)])


def level_part(p, q):
    """The level part of p times q upside down, a POLY in c."""
    many = max(len(p), len(q))
    ups, downs = products_apart(p, q, many), products_apart(q, p, many)
    return poly_of_sums(tuple([middle(x, y) for x, y in zip(ups, downs)]))


def upright_part(p, q):
    """The upright part of p times q upside down, divided by the sine, a POLY in c."""
    many = max(len(p), len(q))
    ups, downs = products_apart(p, q, many), products_apart(q, p, many)
    out = ()
    # Sines of many turns, divided by the first, as POLYS in the cosine.
    last, now = (), (ONE,)
    for x, y in list(zip(ups, downs))[1:]:
        out = added(out, scaled(now, minus(x, y)))
        last, now = now, added(multiplied((ZERO, (2, 1)), now), scaled(last, (-1, 1)))
    return out


def halved_poly(p):
    """The POLY in c that p, alike upside down, is on the rim but for a power of z."""
    half = len(p) // 2
    return poly_of_sums(p[half:])


def sums_at(p, q, x, many):
    """The many numbers of p and x times q, lists of whole numbers, from the highest power."""
    out = [0] * many
    for k, own in enumerate(p):
        out[many - 1 - k] += own
    for k, own in enumerate(q):
        out[many - 1 - k] += x * own
    return out


def resultant_at(one, other, x):
    """0 where two POLYS, each a pair of lists, the second one times x, share a zero."""
    wide, long = [max(len(own[0]), len(own[1])) for own in (one, other)]
    ahead = sums_at(one[0], one[1], x, wide)
    behind = sums_at(other[0], other[1], x, long)
    many = wide + long - 2
    rows = [[0] * k + ahead + [0] * (many - wide - k) for k in range(long - 1)]
    rows += [[0] * k + behind + [0] * (many - long - k) for k in range(wide - 1)]
    return determinant(rows)


def resultant(one, other):
    """The same for all x: a list of whole numbers, lowest power of x first."""
    wide, long = [max(len(own[0]), len(own[1])) for own in (one, other)]
    most = (long - 1 if one[1] else 0) + (wide - 1 if other[1] else 0)
    grid = []
    for x in range(most + 1):
        powers = [1]
        for _ in range(most):
            powers.append(powers[-1] * x)
        grid.append(powers + [resultant_at(one, other, x)])
    return bare(cut(whole_solved(grid)[0]))


def meeting_numbers(p, q):
    """A list, with a root at each x at which zeros of p + x q meet on the rim.

    p and q share no zero, and on the rim p over q is real all along: both are
    alike upside down.
    """
    level, beside = halved_poly(p), halved_poly(q + (ZERO,) * (len(p) - len(q)))
    both = wholes(level + beside)[0]
    one = both[:len(level)], both[len(level):]
    if max([len(own) for own in one]) < 2:
        return [1]
    return resultant(one, (slope(one[0]), slope(one[1])))


def rim_numbers(p, q):
    """A list, with a root at each x at which p + x q has a zero on the rim but 1 and -1.

    p and q share no zero; where all x have such zeros, only those at which
    some of them meet.
    """
    upright, level, size = upright_part(p, q), level_part(p, q), level_part(q, q)
    if not upright:
        return meeting_numbers(p, q)
    # Where q is 0 on the rim, no amount brings a zero there.
    shared = shared_part(shared_part(upright, level), size)
    one = bare(wholes(parted(upright, shared)[0])[0])
    level, size = parted(level, shared)[0], parted(size, shared)[0]
    both = bare(wholes(level + size)[0])
    return resultant((one, []), (both[:len(level)], both[len(level):]))


def crossing_numbers(box, kind):
    """A list of whole numbers with a root at each MARK of kind, and maybe at other amounts."""
    p, q = loop_parts(box, kind)
    shared = shared_part(p, q)
    p, q = parted(p, shared)[0], parted(q, shared)[0]
    out = rim_numbers(p, q)
    for end in (LOW, HIGH):
        out = product_of(out, bare(cut(wholes((valued(p, end), valued(q, end)))[0])))
    # Where both are STUCK a zero is without end.
    return product_of(out, bare(cut(wholes((ONE, box[0][0]))[0])))
