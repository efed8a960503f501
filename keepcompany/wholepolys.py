"""Polynomials of whole numbers: lists, lowest power first, the last one not 0.

A POLY of FRACTIONS times the bottom they have in common is such a list: it has
the same zeros and the same signs.
"""

from math import gcd


def cut(numbers):
    """The list without the 0s at its end."""
    many = len(numbers)
    while many > 0 and numbers[many - 1] == 0:
        many -= 1
    return list(numbers[:many])


def bare(p):
    """p divided by the greatest number above 0 that divides all of it."""
    shared = 0
    for own in p:
        shared = gcd(shared, own)
    if shared < 2:
        return list(p)
    return [own // shared for own in p]


def slope(p):
    """The derivative of p."""
    return [k * p[k] for k in range(1, len(p))]


def product_of(p, q):
    if not p or not q:
        return []
    out = [0] * (len(p) + len(q) - 1)
    for i, own in enumerate(p):
        for j, other in enumerate(q):
            out[i + j] += own * other
    return out


def remainder(p, q):
    """A number above 0 times the rest of p divided by q, made bare."""
    rest = list(p)
    lead = q[-1]
    while len(rest) >= len(q):
        shared = gcd(rest[-1], lead)
        by = abs(lead) // shared
        less = rest[-1] // shared if lead > 0 else -(rest[-1] // shared)
        at = len(rest) - len(q)
        rest = [by * own for own in rest]
        for j, own in enumerate(q):
            rest[at + j] -= less * own
        rest = cut(rest)
    return bare(rest)


def divisor(p, q):
    """The longest common divisor, bare, its last number above 0; [] of two []."""
    one, other = bare(p), bare(q)
    while other:
        one, other = other, (remainder(one, other) if len(one) >= len(other) else one)
    if one and one[-1] < 0:
        return [-own for own in one]
    return one


def divided(p, q):
    """p divided by q, a bare one that divides it without rest."""
    rest = list(p)
    out = [0] * (len(p) - len(q) + 1)
    for k in range(len(out)):
        at = len(out) - 1 - k
        own = rest[at + len(q) - 1] // q[-1]
        out[at] = own
        for j, other in enumerate(q):
            rest[at + j] -= own * other
    return out


def simple(p):
    """p with each zero once, its last number above 0."""
    parted = divided(bare(p), divisor(p, slope(p)))
    if parted[-1] < 0:
        return [-own for own in parted]
    return parted


def by_many(p):
    """The list of pairs (part, many): the zeros that p has just many times, once."""
    if len(p) < 2:
        return []
    shared = divisor(p, slope(p))
    left = divided(p, shared)
    slant = divided(slope(p), shared)
    out = []
    many = 0
    while len(left) > 1:
        many += 1
        slant = differing(slant, slope(left))
        part = divisor(left, slant)
        if len(part) > 1:
            out.append((part, many))
        left = divided(left, part)
        slant = divided(slant, part) if slant else []
    return out


def differing(p, q):
    """p less q."""
    out = [0] * max(len(p), len(q))
    for k, own in enumerate(p):
        out[k] += own
    for k, own in enumerate(q):
        out[k] -= own
    return cut(out)


def worth_at(p, x):
    """The value of p at the FRACTION x, times its bottom so often as p has powers."""
    top, bottom = x
    out = 0
    power = 1
    for k in range(len(p)):
        out = out * top + p[len(p) - 1 - k] * power
        power *= bottom
    return out


def sign_of(number):
    if number > 0:
        return 1
    return -1 if number < 0 else 0


def sign_at(p, x):
    return sign_of(worth_at(p, x))


def chain_of(p, q):
    """p, q, and from then on the rest of the one ahead by the last, times -1."""
    out = [list(p)]
    last = list(q)
    while last:
        ahead = out[-1]
        out.append(last)
        rest = remainder(ahead, last) if len(ahead) >= len(last) else ahead
        last = [-own for own in rest]
    return out


def changes(numbers):
    """How often the sign changes along numbers, 0s left out."""
    kept = [own for own in numbers if own != 0]
    return sum([1 for k in range(1, len(kept)) if (kept[k] > 0) != (kept[k - 1] > 0)])


def changes_at(chain, x):
    return changes([worth_at(own, x) for own in chain])


def index_of(chain):
    """The changes of sign far below 0 less those far above."""
    low = [own[-1] if len(own) & 1 else -own[-1] for own in chain]
    return changes(low) - changes([own[-1] for own in chain])


def count_between(p, low, high):
    """How many unlike roots of p, not [], lie strictly between low and high."""
    one = simple(p)
    chain = chain_of(one, slope(one))
    count = changes_at(chain, low) - changes_at(chain, high)
    if worth_at(one, high) == 0:
        count -= 1
    return count


def real_count(p):
    """How many roots p, not [], has, each counted as often as it is one."""
    count = 0
    left = p
    while len(left) > 1:
        chain = chain_of(left, slope(left))
        count += index_of(chain)
        left = chain[-1]
    return count


def turned_half(p):
    """p at (1 + w) / (1 - w), times 1 - w as often as p has powers, for i w.

    What comes is the pair of its two real lists: those of the even powers of w
    and of the odd ones, divided by i.
    """
    out = [0]
    power = [1]
    for k in range(len(p)):
        out = differing(product_of(out, [1, 1]), [-p[len(p) - 1 - k] * own for own in power])
        power = product_of(power, [1, -1])
    signs = (1, 1, -1, -1)
    even = [own * signs[k & 3] if k & 1 == 0 else 0 for k, own in enumerate(out)]
    odd = [own * signs[k & 3] if k & 1 == 1 else 0 for k, own in enumerate(out)]
    return cut(even), cut(odd)


def outside_count(p):
    """How many zeros p, not [], has with a size above 1, each as often as it is one.

    Outside of the circle is right of the upright axis for w: the winding of
    the values along that axis tells how many more lie left of it than right.
    """
    even, odd = turned_half(p)
    more = even if len(even) > len(odd) else odd
    less = odd if len(even) > len(odd) else even
    chain = chain_of(more, less)
    left_more = -index_of(chain) if len(even) > len(odd) else index_of(chain)
    on_axis = real_count(chain[-1])
    return (len(more) - 1 - on_axis - left_more) // 2
