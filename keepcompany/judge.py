"""CLAIMS of eight kinds, and one judge for the PAPERS that they are so, or are not.

Five kinds come to whether some BOX is a KEEPER: a STORE shows that it is. The
other three come to whether some KEEPER begins with ECHOES that are told.
"""

from keepcompany.alone import some_part
from keepcompany.checks import is_fraction, is_row, taken
from keepcompany.errors import Stuck
from keepcompany.holes import inner_of_outer
from keepcompany.joints import away, box_of, part_shaped
from keepcompany.keepers import refusal, refuses
from keepcompany.ladders import fall_of, middle_box, row_against
from keepcompany.logs import judged_echoes, log_shaped, told_answers
from keepcompany.points import pair_shaped
from keepcompany.ratios import ZERO, negated
from keepcompany.rims import keeps, with_bottoms
from keepcompany.runaways import pair_found
from keepcompany.shapes import first_echoes, small_shaped, taken_small
from keepcompany.shares import inner_of, lead_with
from keepcompany.stores import store_found, store_shaped
from keepcompany.told import MOST_HEARD, silent, speaks_against

WORDS = ("alone", "company", "hole", "keeper", "log", "pair", "share", "told")
# Those that hold of a BOX alone; these two are so of GIVERS.
OF_BOXES = ("alone", "keeper", "pair")
OF_GIVERS = ("alone", "pair")
OF_SHARES = ("company", "share")
OF_ECHOES = ("hole", "log", "told")
WITH_BOXES = ("alone", "company", "hole", "keeper", "pair", "share")


def heard_shaped(thing):
    """Whether thing is a ROW of 1 to 12 FRACTIONS."""
    return is_row(thing) and 1 <= len(thing) <= MOST_HEARD


def alone_shaped(word, thing):
    """Whether word makes a CLAIM with thing alone."""
    if word in OF_BOXES:
        return small_shaped(thing)
    if word == "told":
        return heard_shaped(thing) and not silent(thing)
    return word == "log" and log_shaped(thing) and not silent(told_answers(thing))


def both_shaped(word, box, thing):
    """Whether word makes a CLAIM with box and thing."""
    if not small_shaped(box):
        return False
    if word in OF_SHARES:
        return is_fraction(thing) and thing[0] >= 0
    return word == "hole" and heard_shaped(thing)


def claim_shaped(thing):
    """Whether thing is a CLAIM."""
    if not isinstance(thing, tuple) or len(thing) not in (2, 3):
        return False
    if len(thing) == 2:
        return alone_shaped(thing[0], thing[1])
    return both_shaped(thing[0], thing[1], thing[2])


def claims_shaped(thing):
    return isinstance(thing, tuple) and all([claim_shaped(own) for own in thing])


def taken_claim(value):
    return taken(value, 4, claim_shaped)


def taken_claims(value):
    return taken(value, 5, claims_shaped)


def echoes_asked(claim):
    """The ECHOES with which, the CLAIM says, some KEEPER begins, or nothing if all are 0."""
    if claim[0] == "hole":
        return inner_of_outer(claim[1], claim[2])
    return judged_echoes(claim[1]) if claim[0] == "log" else claim[1]


def box_asked(claim):
    """The BOX on which the CLAIM hangs: whether it is a KEEPER.

    If all its tops are 0 it has no cells, and all here tell of it what they
    tell of a KEEPER with none: its STORE is ().
    """
    if claim[0] == "share":
        return with_bottoms(claim[1], negated(claim[2]))
    if claim[0] != "company":
        return claim[1]
    if lead_with(claim[1], claim[2]) == ZERO:
        raise Stuck()
    return inner_of(claim[1], claim[2])


def holds(claim):
    """Whether the CLAIM is so."""
    if claim[0] in OF_ECHOES:
        return fall_of(echoes_asked(claim)) is None
    return keeps(box_asked(claim)) != (claim[0] in OF_GIVERS)


def giver_paper(word, box):
    """A PAPER, as word wants it, that box is a GIVER."""
    if word == "keeper":
        return refusal(box)
    return some_part(box) if word == "alone" else pair_found(box)


def echoes_paper(heard):
    """A KEEPER that begins with heard, None for nothing, or a row against all that do."""
    if fall_of(heard) is not None:
        return row_against(heard)
    return None if silent(heard) else middle_box(heard)


def shows_giver(word, box, thing):
    """Whether thing shows, as word wants it, that box is a GIVER."""
    if word == "keeper":
        return refuses(box, thing)
    if word == "alone":
        return part_shaped(thing) and away(box, box_of(thing))
    return pair_shaped(box, thing)


def shows_begun(heard, thing):
    """Whether thing is a KEEPER that begins with heard, or None and all of heard are 0."""
    if silent(heard):
        return thing is None
    return small_shaped(thing) and first_echoes(thing, len(heard)) == heard and keeps(thing)


def judged(claim, thing):
    """True or False if thing shows that the CLAIM is so, or is not; None if it shows neither."""
    if claim[0] in OF_ECHOES:
        heard = echoes_asked(claim)
        if shows_begun(heard, thing):
            return True
        return False if speaks_against(heard, thing) else None
    box = box_asked(claim)
    if store_shaped(box, thing):
        return claim[0] not in OF_GIVERS
    return claim[0] in OF_GIVERS if shows_giver(claim[0], box, thing) else None


def is_claim(thing):
    """Whether thing is a CLAIM."""
    return claim_shaped(thing)


def is_so(claim):
    """Whether claim is so."""
    return holds(taken_claim(claim))


def claim_paper(claim):
    """A PAPER of claim: that it is so, or that it is not."""
    own = taken_claim(claim)
    if own[0] in OF_ECHOES:
        return echoes_paper(echoes_asked(own))
    box = box_asked(own)
    return store_found(box) if keeps(box) else giver_paper(own[0], box)


def is_claim_paper(claim, thing):
    """Whether thing is a PAPER of claim."""
    return judged(taken_claim(claim), thing) is not None


def shows(claim, thing):
    """True or False if thing is a PAPER that claim is so, or is not; None if it is none."""
    return judged(taken_claim(claim), thing)


def not_so(claims):
    """The set of the numbers of those of claims that are not so."""
    return tuple([k for k, own in enumerate(taken_claims(claims)) if not holds(own)])


def words_so(claims):
    """The set of the words of which all CLAIMS among claims, one at least, are so."""
    told = [(own[0], holds(own)) for own in taken_claims(claims)]
    used = [word for word in WORDS if any([own == word for own, _ in told])]
    return tuple([word for word in used if all([held for own, held in told if own == word])])


def turns(claim, box):
    """Whether the CLAIM is so just if it is not with box in its place."""
    return holds(claim) != holds(claim[:1] + (box,) + claim[2:])


def turned_by(claims, box):
    """The set of the numbers of those of claims that box in place of their own BOX turns."""
    kept, own = taken_claims(claims), taken_small(box)
    return tuple([k for k, claim in enumerate(kept) if claim[0] in WITH_BOXES and turns(claim, own)])
