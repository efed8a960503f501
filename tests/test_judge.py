"""Point [22]: CLAIMS, and one judge for their PAPERS."""

import random
import unittest
from fractions import Fraction

from keepcompany.alone import one_part
from keepcompany.boxes import echoes, late
from keepcompany.curves import rim_pair
from keepcompany.errors import CanNot, NoPaper, Stuck, TooMany, Unfit
from keepcompany.holes import could_show, outer_echoes, why_none
from keepcompany.judge import (claim_paper, is_claim, is_claim_paper, is_so, not_so, shows, turned_by, words_so)
from keepcompany.keepers import is_keeper, paper, why_not
from keepcompany.logs import could_be, log_of, surely_gives
from keepcompany.loops import runs_away
from keepcompany.parts import part_box
from keepcompany.runaways import pair as pair_of
from keepcompany.shares import inner_share, keeps_with_share, pair_of_share, with_damper
from keepcompany.stores import store
from keepcompany.told import can_be, end_box, from_steps, row_for_all, some_box

from complexes import is_pair_by_hand
from helpers import (BIG, HALF, LESS, O, ONE, TWO, any_fraction, box, is_store_by_hand, lists, pair, row, value, values)
from makers import BORDERS, HELPED, INNER, LOST, damper, keeper, less_damper, small_box, spring

WORDS = ("alone", "company", "hole", "keeper", "log", "pair", "share", "told")
RUB, PUSH, LAG = damper(2), damper(-1), box([0, 1], [1, 0])
RAMP = box([1, 0], [1, -1])
TINY = Fraction(1, BIG)


def some_box_of(chance):
    kind = chance.random()
    if kind < 0.5:
        return small_box(chance, chance.randint(0, 4))
    return keeper(chance) if kind < 0.8 else chance.choice(BORDERS + INNER + LOST + [own for own, _ in HELPED])


def heard_of(chance, own):
    """A ROW that own has as ECHOES, or one beside it, or any one; not all 0."""
    heard = echoes(own, chance.randint(1, 8))
    if chance.random() < 0.4:
        heard = heard[:-1] + (pair(value(heard[-1]) + chance.choice((1, -2, TINY))),)
    return heard if any(values(heard)) else heard[:-1] + (ONE,)


def claim_of(chance, word):
    own = some_box_of(chance)
    if word in ("keeper", "alone", "pair"):
        return (word, own)
    if word in ("share", "company"):
        return (word, own, pair(Fraction(chance.randint(0, 6), chance.randint(1, 3))))
    if word == "told":
        return (word, heard_of(chance, own))
    if word == "hole":
        held = some_box_of(chance)
        inner = heard_of(chance, held) if chance.random() < 0.8 else (O,) * 4
        while own[0][0] == O or 1 + value(own[0][0]) * value(inner[0]) == 0:
            own = some_box_of(chance)
        return (word, own, outer_echoes(own, inner))
    pushes = row(chance.choice((-1, 1, 2)), *[any_fraction(chance) for _ in range(chance.randint(0, 6))])
    log = log_of(own, pushes)
    return (word, log if any(value(a) for _, a in log) else log + ((ONE, TWO),))


def wanted(claim):
    """Whether the CLAIM is so, by the functions of its own point."""
    word = claim[0]
    if word in ("keeper", "alone", "pair"):
        return is_keeper(claim[1]) == (word == "keeper")
    if word == "share":
        left = less_damper(claim[1], value(claim[2]))
        return left is None or is_keeper(left)
    if word == "company":
        return keeps_with_share(claim[1], claim[2])
    if word == "told":
        return can_be(claim[1])
    return could_show(claim[1], claim[2]) if word == "hole" else could_be(claim[1])


def paper_by_hand(claim, told):
    """Whether told shows what is wanted of the CLAIM, by what the tests know."""
    word, so = claim[0], wanted(claim)
    if word in ("told", "hole", "log"):
        return paper_of_echoes(claim, told, so)
    own = claim[1]
    if word == "share":
        own = less_damper(own, value(claim[2]))
        if own is None:
            return told == ()
    if word == "company":
        own = inner_share(own, claim[2])
    if so != (word in ("alone", "pair")):
        return is_store_by_hand(own, told) if len(own[0]) < 6 else told == store(own)
    if word == "keeper":
        return told == why_not(own) and told[0] in ("curve", "damper")
    if word == "alone":
        return runs_away(own, part_box(told))
    return is_pair_by_hand(own, told)


def paper_of_echoes(claim, told, so):
    if claim[0] == "log":
        log = claim[1]
        pushes = tuple(push for push, _ in log)
        if so:
            return is_keeper(told) and log_of(told, pushes) == log
        return len(told) == len(log) and told == surely_gives(log)
    if claim[0] == "told":
        heard = claim[1]
        return (is_keeper(told) and echoes(told, len(heard)) == heard) if so else told == row_for_all(heard)
    own, outer = claim[1:]
    if not so:
        return told == why_none(own, outer)
    inside = (O,) * len(outer) if told is None else echoes(told, len(outer))
    return (told is None or is_keeper(told)) and outer_echoes(own, inside) == outer


def asked_of(claim):
    return [lambda: is_so(claim), lambda: claim_paper(claim), lambda: is_claim_paper(claim, None),
            lambda: shows(claim, ()), lambda: not_so((claim,)), lambda: words_so([claim])]


class JudgeTests(unittest.TestCase):

    def test_each_word_both_ways(self):
        chance = random.Random(221)
        for word in WORDS:
            seen = [0, 0]
            tried = 0
            while min(seen) < 12:
                tried += 1
                self.assertLess(tried, 400, word)
                claim = claim_of(chance, word)
                self.assertIs(is_claim(claim), True)
                if word == "company" and 1 + value(claim[1][0][0]) * value(claim[2]) == 0:
                    self.refused(claim, Stuck)
                    continue
                so = wanted(claim)
                seen[so] += 1
                self.judge(claim, so)

    def judge(self, claim, so):
        self.assertIs(is_so(claim), so)
        told = claim_paper(claim)
        self.assertTrue(paper_by_hand(claim, told), (claim, told))
        self.assertIs(shows(claim, told), so)
        self.assertIs(is_claim_paper(claim, told), True)
        self.assertEqual(not_so((claim,)), () if so else (0,))
        self.assertEqual(words_so((claim,)), (claim[0],) if so else ())
        self.assertEqual(claim_paper(lists(claim)), told)
        self.assertIs(shows(lists(claim), told), so)
        for wrong in bent(told):
            if wrong != told or repr(wrong) != repr(told):
                self.bent_is_none_or_another(claim, so, wrong)

    def bent_is_none_or_another(self, claim, so, wrong):
        """A thing that isn't made as PAPERS are is none; else it never shows the other way."""
        told = shows(claim, wrong)
        self.assertIn(told, (so, None))
        self.assertIs(is_claim_paper(claim, wrong), told is not None)
        if not all_tuples(wrong):
            self.assertIsNone(told)

    def refused(self, claim, error):
        for call in asked_of(claim):
            with self.assertRaises(error):
                call()

    def test_papers_of_the_points(self):
        chance = random.Random(222)
        for own in [some_box_of(chance) for _ in range(40)] + LOST + BORDERS:
            if is_keeper(own):
                for word, so in (("keeper", True), ("alone", False), ("pair", False)):
                    self.assertIs(shows((word, own), store(own)), so)
                    self.assertIsNone(shows((word, own), paper(own)))
                    self.assertIsNone(shows((word, own), ("spring", ONE)))
                    self.assertIsNone(shows((word, own), row(1, 1, 0, 2)))
                continue
            told, part, four = why_not(own), one_part(own), pair_of(own)
            self.assertIs(shows(("keeper", own), told), False)
            self.assertIs(shows(("alone", own), part), True)
            self.assertIs(shows(("pair", own), four), True)
            for word, things in (("keeper", (part, four)), ("alone", (told, four)), ("pair", (told, part))):
                for thing in things:
                    self.assertIsNone(shows((word, own), thing))
                self.assertIsNone(shows((word, own), ()))

    def test_shares_and_company(self):
        chance = random.Random(223)
        for own in [some_box_of(chance) for _ in range(40)]:
            e = pair(Fraction(chance.randint(0, 5), chance.randint(1, 3)))
            left = less_damper(own, value(e))
            if left is None:
                self.assertIs(shows(("share", own, e), ()), True)
                self.assertIsNone(shows(("share", own, e), row(1, 0, -3, 0)))
            elif is_keeper(left):
                self.assertIs(shows(("share", own, e), store(with_damper(own, pair(-value(e))))), True)
            else:
                self.assertIs(shows(("share", own, e), pair_of(left)), False)
                self.assertIsNone(shows(("share", own, e), ()))
            if 1 + value(own[0][0]) * value(e) == 0:
                self.refused(("company", own, e), Stuck)
            elif keeps_with_share(own, e):
                self.assertIs(shows(("company", own, e), store(inner_share(own, e))), True)
            else:
                self.assertIs(shows(("company", own, e), pair_of_share(own, e)), False)
        self.assertIs(shows(("share", RUB, TWO), ()), True)
        self.assertIs(shows(("share", RUB, O), ()), True)
        # A PAIR of the BOX itself is none of what is left of it.
        self.assertIsNone(shows(("share", LAG, ONE), pair_of(LAG)))
        self.assertIs(shows(("share", LAG, O), pair_of(LAG)), False)
        self.assertIsNone(shows(("company", PUSH, HALF), pair_of(PUSH)))

    def test_boxes_that_begin_so(self):
        heard = row(1, "1/2", "-1/3")
        for own in (some_box(heard), end_box(heard, 0), end_box(heard, 1)):
            for many in (1, 2, 3):
                self.assertIs(shows(("told", heard[:many]), own), True)
                self.assertIs(shows(("log", tuple(zip((ONE, O, O), heard[:many]))), own), True)
                self.assertIs(shows(("hole", RUB, outer_echoes(RUB, heard[:many])), own), True)
                self.assertIs(shows(("hole", RAMP, outer_echoes(RAMP, heard[:many])), own), True)
        for wrong in (damper(1), spring(1), end_box(heard[:1], 0), None, (), list(some_box(heard)), row(1, -1, 1),
                      (some_box(heard),), box([1, 1], [1, 1])):
            self.assertIsNone(shows(("told", heard), wrong))
            self.assertIsNone(shows(("hole", RUB, outer_echoes(RUB, heard)), wrong))
        # GIVERS that begin so, and a BOX that is not SMALL, are none.
        giver = box([1, "1/2", "-1/3", 5], [1, 0, 0, 0])
        self.assertEqual(echoes(giver, 3), heard)
        self.assertFalse(is_keeper(giver))
        self.assertIsNone(shows(("told", heard), giver))
        self.assertIsNone(shows(("told", (ONE,)), box([1, 0], [1, 0])))
        self.assertIs(shows(("told", (ONE,)), damper(1)), True)

    def test_nothing_in_the_hole(self):
        for own in (RUB, PUSH, RAMP, box([1, 3], [1, 0])):
            for many in (1, 5, 12):
                claim = ("hole", own, echoes(own, many))
                self.assertIs(is_so(claim), True)
                self.assertIsNone(claim_paper(claim))
                self.assertIs(shows(claim, None), True)
                self.assertIs(is_claim_paper(claim, None), True)
                for wrong in ((), damper(1), (O,) * many, False, 0):
                    self.assertIsNone(shows(claim, wrong))
                    self.assertIs(is_claim_paper(claim, wrong), False)
            self.assertIsNone(shows(("hole", own, outer_echoes(own, (HALF,))), None))
        self.assertIsNone(shows(("told", (ONE,)), None))
        self.assertIsNone(shows(("log", ((ONE, ONE),)), None))
        # 0, then something: no KEEPER, and not nothing.
        claim = ("hole", RUB, outer_echoes(RUB, row(0, 1)))
        self.assertIs(is_so(claim), False)
        self.assertIs(shows(claim, row(1, -1)), False)

    def test_what_is_a_claim(self):
        log = ((ONE, O), (O, TWO))
        for good in (("keeper", RUB), ("share", RUB, O), ("company", PUSH, (BIG, 1)), ("told", (O, ONE)),
                     ("told", (LESS,) * 12), ("hole", LAG, (O,)), ("hole", RUB, (ONE,) * 12), ("log", log),
                     ("log", log * 20), ("alone", box([1] + [0] * 11 + [1], [1] + [0] * 12)), ("pair", LAG)):
            self.assertIs(is_claim(good), True)
            self.assertIs(is_claim(list(good)), False)
            self.assertIs(is_claim(good[:1] + (lists(good[1]),) + good[2:]), False)
            self.assertIs(is_claim(good + (ONE,)), False)
            self.assertIs(is_claim(good[:1]), False)
            for word in ("", "Keeper", "store", None, True, 3, (), "keeper ", ("keeper",)):
                self.assertIs(is_claim((word,) + good[1:]), False)
        for wrong in (("share", RUB, LESS), ("company", RUB, (-1, BIG)), ("told", (O, O)), ("told", (ONE,) * 13), ("told", ()),
                      ("hole", RUB, (ONE,) * 13), ("hole", RUB, ()), ("log", ((ONE, O),)), ("log", ((O, ONE),)), ("log", ()),
                      ("keeper", box([1, 1], [1, 1])), ("share", RUB), ("share", RUB, (2, 2)), ("share", RUB, (True, 1)),
                      ("hole", (ONE,), RUB), ("told", RUB), ("log", (ONE,)), ("pair", ("pair", RUB)), None, True, "keeper", 8):
            self.assertIs(is_claim(wrong), False)

    def test_the_order_of_checks(self):
        good, no_claim = ("keeper", RUB), ("keeper", box([1, 1], [1, 1]))
        cannot, many = ("hole", LAG, (ONE,)), ("log", ((ONE, ONE),) * 13)
        stuck = ("company", PUSH, ONE)
        for claim, error in ((cannot, CanNot), (("hole", RUB, (O, ONE)), CanNot), (many, TooMany), (stuck, Stuck),
                             (("company", box([-2, 1], [1, 0]), HALF), Stuck)):
            self.assertIs(is_claim(claim), True)
            self.refused(claim, error)
            for thing in (None, True, (), [], "x", RUB, row(1, 0, -3, 0), [[[]]]):
                for call in (lambda: shows(claim, thing), lambda: is_claim_paper(claim, thing)):
                    with self.assertRaises(error):
                        call()
            for function in (not_so, words_so):
                with self.assertRaises(error):
                    function((good, claim, good))
                # Unfit goes ahead, wherever it stands.
                with self.assertRaises(Unfit):
                    function((claim, no_claim))
            with self.assertRaises(Unfit):
                turned_by((claim, no_claim), RUB)
            with self.assertRaises(Unfit):
                turned_by((claim,), box([1, 1], [1, 1]))
        # The first one that can't be asked decides.
        for claims, error in (((cannot, many, stuck), CanNot), ((good, many, cannot), TooMany), ((stuck, cannot), Stuck)):
            for function in (not_so, words_so):
                with self.assertRaises(error):
                    function(claims)
        self.assertIs(is_so(("hole", RUB, (ONE,))), True)
        self.assertIs(is_so(("log", ((ONE, ONE),) * 12)), True)
        self.assertEqual(turned_by((many, good), PUSH), (1,))
        for claims in (None, "ab", 5, good, (good, None), (None,)):
            for function in (not_so, words_so):
                with self.assertRaises(Unfit):
                    function(claims)

    def test_many_claims(self):
        chance = random.Random(224)
        for _ in range(60):
            claims = []
            while len(claims) < chance.randint(0, 6):
                claim = claim_of(chance, chance.choice(WORDS))
                if claim[0] != "company" or 1 + value(claim[1][0][0]) * value(claim[2]) != 0:
                    claims.append(claim)
            so = [wanted(claim) for claim in claims]
            self.assertEqual(not_so(tuple(claims)), tuple(k for k, own in enumerate(so) if not own))
            words = sorted({claim[0] for claim in claims})
            self.assertEqual(words_so(claims), tuple(word for word in words if all(
                own for own, claim in zip(so, claims) if claim[0] == word)))
        self.assertEqual(not_so(()), ())
        self.assertEqual(words_so([]), ())
        self.assertEqual(turned_by((), RUB), ())
        # Somewhat more than six.
        self.assertEqual(not_so((("keeper", RUB), ("keeper", PUSH)) * 4), (1, 3, 5, 7))
        self.assertEqual(words_so((("pair", PUSH), ("keeper", RUB), ("alone", RUB), ("pair", LAG), ("alone", LAG))),
                         ("keeper", "pair"))

    def test_turned_by(self):
        chance = random.Random(225)
        turned = 0
        for _ in range(60):
            claims, own = [claim_of(chance, chance.choice(WORDS)) for _ in range(4)], some_box_of(chance)
            error, told = None, []
            for k, claim in enumerate(claims):
                if claim[0] in ("told", "log"):
                    continue
                try:
                    if wanted_or_raises(claim) != wanted_or_raises(claim[:1] + (own,) + claim[2:]):
                        told.append(k)
                except (CanNot, Stuck) as caught:
                    error = type(caught)
                    break
            if error is not None:
                with self.assertRaises(error):
                    turned_by(claims, own)
                continue
            turned += len(told) > 0
            self.assertEqual(turned_by(tuple(claims), lists(own)), tuple(told))
        self.assertGreater(turned, 15)
        self.assertEqual(turned_by((("share", RUB, ONE), ("pair", LAG), ("company", LAG, TWO)), LAG), (0,))
        # Each is asked with its own BOX first, then with the other one, then the next.
        with self.assertRaises(CanNot):
            turned_by((("hole", RUB, (ONE,)), ("company", PUSH, ONE)), LAG)
        with self.assertRaises(Stuck):
            turned_by((("company", PUSH, ONE), ("hole", LAG, (ONE,))), LAG)
        with self.assertRaises(Stuck):
            turned_by((("company", RUB, ONE), ("hole", LAG, (ONE,))), PUSH)

    def test_boxes_of_many_cells(self):
        steps = row(*[Fraction((-1) ** k, k + 2) for k in range(11)])
        heard = from_steps(ONE, steps)
        for own in (end_box(heard, 0), some_box(heard)):
            self.assertIs(is_so(("keeper", own)), True)
            stored = claim_paper(("keeper", own))
            self.assertIs(shows(("keeper", own), stored), True)
            self.assertIs(shows(("alone", own), stored), False)
            self.assertIs(shows(("pair", own), stored), False)
            self.assertIs(shows(("told", heard), own), True)
            self.assertIs(shows(("share", own, TWO), claim_paper(("share", own, TWO))), False)
            self.assertIs(shows(("company", own, TWO), claim_paper(("company", own, TWO))), True)
            log = log_of(own, row(2, 1, 0, -1, *range(8)))
            self.assertIs(shows(("log", log), own), True)
            self.assertIs(shows(("log", log), claim_paper(("log", log))), True)

    def test_great_numbers(self):
        for own in (box([BIG, Fraction(1, BIG)], [1, Fraction(1, 7)]), damper(TINY), damper(-TINY),
                    rim_pair((BIG - 1, BIG)), box([1, 1], [1, TINY - 1]), box([1, 1], [1, -1 - TINY])):
            for word in ("keeper", "alone", "pair"):
                self.judge((word, own), wanted((word, own)))
            for e in (O, (BIG, 1), (1, BIG)):
                for word in ("share", "company"):
                    if word == "share" or 1 + value(own[0][0]) * value(e) != 0:
                        self.judge((word, own, e), wanted((word, own, e)))

    def test_late_boxes_and_their_papers(self):
        for own in (RUB, RAMP, box([1, 0], [1, "1/2"])):
            for k in (1, 2):
                behind = late(own, k)
                self.assertEqual(not_so((("keeper", behind), ("alone", behind), ("pair", behind))), (0,))
                with self.assertRaises(NoPaper):
                    store(behind)


def wanted_or_raises(claim):
    if claim[0] == "company" and 1 + value(claim[1][0][0]) * value(claim[2]) == 0:
        raise Stuck()
    return wanted(claim)


def all_tuples(thing):
    if isinstance(thing, tuple):
        return all(all_tuples(own) for own in thing)
    return thing is None or (not isinstance(thing, (bool, list)) and isinstance(thing, (int, str)))


def bent(thing):
    """thing with something in it changed, or a list or True in it."""
    yield from (True, False, 0, "store", [], ["damper"], [[]])
    if isinstance(thing, tuple):
        yield list(thing)
        yield (thing,)
        yield thing + (thing[-1],) if thing else ((),)
        if thing:
            yield thing[:-1]
        for k, own in enumerate(thing):
            for other in bent(own):
                yield thing[:k] + (other,) + thing[k + 1:]
    elif isinstance(thing, int):
        yield thing + 1
        yield -thing
        if thing == 1:
            yield True
    elif isinstance(thing, str):
        yield thing + "s"
        yield thing.upper()


if __name__ == "__main__":
    unittest.main()
