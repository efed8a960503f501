"""Point [1], and what runs across the points."""

import random
import unittest
from fractions import Fraction

from keepcompany.alone import (is_one_part, kinds_that_run, least_amount, marks, one_part, runs_with, spans)
from keepcompany.boxes import echoes, rest, summed, times
from keepcompany.curves import curve, rim_pair
from keepcompany.desk import last_office, replies
from keepcompany.errors import CanNot, NoPaper, TooMany
from keepcompany.holes import could_show, inner_echoes, outer_echoes, outer_of, why_none
from keepcompany.judge import claim_paper, is_claim_paper, is_so, not_so, shows, turned_by, words_so
from keepcompany.keepers import is_keeper, is_paper, keeps_by_rows, paper
from keepcompany.logs import could_be, echoes_of, log_end, log_of, surely_gives
from keepcompany.loops import is_stuck, joined_bound, joined_run, runs_away
from keepcompany.numbers import poly_parted
from keepcompany.office import Office
from keepcompany.parts import part_box, part_store, spring_and_mass
from keepcompany.runaways import is_pair, pair as pair_of, pair_loop, row_of_pair
from keepcompany.shares import is_share, share, share_papers, with_damper
from keepcompany.stores import cell_bounds, is_store, store, worth
from keepcompany.takings import after_all, most_spring, taken
from keepcompany.texts import box_in, box_text, log_in, log_text, script_in, script_text
from keepcompany.told import can_be, end_box, is_row_for_all, row_for_all, some_box
from keepcompany.whoever import bound_for, is_within, put_in, script_run, script_worths, stays
from keepcompany.works import giving_row, is_giving_row, work_of

from helpers import (BIG, HALF, LESS, O, ONE, TWO, any_fraction, box, lists, pair, row, value, values, work_by_hand)
from makers import BORDERS, HELPED, INNER, LOST, damper, keeper, less_damper, loss_free, mass, small_box, spring


def some_part(chance):
    return (chance.choice(("spring", "mass", "damper")), pair(Fraction(chance.randint(1, 5), chance.randint(1, 4))))


def some_boxes(chance, many):
    found = [small_box(chance, chance.randint(0, 4)) if chance.random() < 0.6 else keeper(chance) for _ in range(many)]
    return found + BORDERS + INNER + LOST + [own for own, _ in HELPED]


class WholeTests(unittest.TestCase):

    def test_a_store_or_one_part_alone(self):
        """[1] (a): just one of two, for all SMALL BOXES."""
        chance = random.Random(261)
        seen = [0, 0]
        for own in some_boxes(chance, 120):
            kept = is_keeper(own)
            seen[kept] += 1
            if kept:
                with self.assertRaises(NoPaper):
                    one_part(own)
                self.judge_company(chance, own, store(own))
                continue
            with self.assertRaises(NoPaper):
                store(own)
            part = one_part(own)
            self.assertIs(is_one_part(own, part), True)
            self.assertIs(runs_away(own, part_box(part)), True)
        self.assertTrue(min(seen) > 40, seen)

    def judge_company(self, chance, own, table):
        """Whoever joins a KEEPER with a STORE, its cells pass no bound that this tells."""
        cells = row(*[chance.randint(-3, 3) for _ in own[0][1:]])
        script = tuple((chance.randint(1, 4), some_part(chance)) for _ in range(4))
        bounds = values(bound_for(table, cells, O))
        told = values(script_worths(own, table, cells, script))
        self.assertEqual(told[0], value(worth(table, cells)))
        self.assertEqual(max(told), told[0])
        self.assertIs(stays(own, table, cells, script), True)
        ends = values(script_run(own, cells, script)[1])
        self.assertTrue(all(x * x <= most for x, most in zip(ends, bounds)))
        other = chance.choice((keeper, loss_free))(chance)
        self.assertFalse(is_stuck(own, other))
        self.assertFalse(runs_away(own, other))
        ends = values(joined_run(own, cells, other, rest(other), 12)[1])
        most = values(joined_bound(table, cells, store(other), rest(other)))
        self.assertTrue(all(x * x <= y for x, y in zip(ends, most)))
        pushes = row(*[any_fraction(chance) for _ in range(6)])
        self.assertIs(is_within(own, table, cells, pushes, put_in(own, cells, pushes)), True)

    def test_rows_that_bring_more_out(self):
        """[1] (b): a KEEPER has no such row; a GIVER has one, and a spring with a mass."""
        chance = random.Random(262)
        for own in some_boxes(chance, 60):
            if is_keeper(own):
                self.assertIs(keeps_by_rows(own, 12), True)
                with self.assertRaises(NoPaper):
                    pair_of(own)
                continue
            four = pair_of(own)
            self.assertIs(is_pair(own, four), True)
            a, b = values(four[2:])
            by = row(-a, 1) if b == 0 else row(a * a + b * b, -2 * a, 1)
            self.assertEqual(poly_parted(pair_loop(own, four), by)[1], ())
            self.assertIs(runs_away(own, spring_and_mass(four[0], four[1])), True)
            try:
                told = row_of_pair(own, four, ONE)
            except TooMany:
                told = giving_row(own, 12) if not keeps_by_rows(own, 12) else None
            if told is not None:
                self.assertLess(work_by_hand(own, told), 0)
                self.assertIs(is_giving_row(own, told), True)

    def test_marks_alone(self):
        """[1] (c): between its MARKS a kind runs all along, or nowhere."""
        chance = random.Random(263)
        judged = 0
        for own in some_boxes(chance, 30):
            if is_keeper(own) or curve(own) == ():
                continue
            for kind in ("damper", "mass", "spring"):
                try:
                    told, running = marks(own, kind, (1, 10 ** 6)), spans(own, kind, (1, 10 ** 6))
                except TooMany:
                    continue
                judged += 1
                starts = [Fraction(0)] + [value(high) for _, high in told]
                ends = [value(low) for low, _ in told] + [None]
                for start, end in zip(starts, ends):
                    last = start + 1 if end is None else end
                    runs = (pair(start), None if end is None else pair(end)) in running
                    kinds = [runs_with(own, (kind, pair(start + (last - start) * Fraction(k, 7)))) for k in range(1, 7)]
                    self.assertGreaterEqual(kinds.count(runs), 5)
                if running:
                    self.assertIn(kind, kinds_that_run(own))
                    low, high = values(least_amount(own, kind, HALF))
                    self.assertTrue(0 <= low < high <= low + Fraction(1, 2))
        self.assertGreater(judged, 60)

    def test_papers_judged_by_another_point(self):
        chance = random.Random(264)
        for own in some_boxes(chance, 40):
            told = paper(own)
            self.assertIs(is_paper(own, told), True)
            claims = (("keeper", own), ("alone", own), ("pair", own))
            papers = [claim_paper(claim) for claim in claims]
            if is_keeper(own):
                self.assertEqual(not_so(claims), (1, 2))
                for claim, found in zip(claims, papers):
                    self.assertIs(is_store(own, found), True)
                    self.assertIs(is_claim_paper(claim, told[1]), True)
                self.assertIs(can_be(echoes(own, 12)), True)
            else:
                self.assertEqual(words_so(claims), ("alone", "pair"))
                self.assertIs(is_paper(own, papers[0]), True)
                self.assertIs(is_one_part(own, papers[1]), True)
                self.assertIs(is_pair(own, papers[2]), True)
                self.assertIs(shows(claims[0], told), False)
            bracket = share(own, (1, 8))
            if bracket is not None:
                stored, four = share_papers(own, *bracket)
                self.assertIs(is_share(own, *bracket, (stored, four)), True)
                if value(bracket[0]) >= 0:
                    self.assertIs(shows(("share", own, bracket[0]), stored), True)
                    self.assertIs(shows(("share", own, bracket[1]), four), False)

    def test_holes_logs_and_told_echoes_tell_the_same(self):
        chance = random.Random(265)
        for held in some_boxes(chance, 40):
            own = damper(chance.randint(1, 3)) if chance.random() < 0.5 else keeper(chance)
            heard = echoes(held, 6)
            if is_stuck(own, held) or not any(values(heard)):
                continue
            outer = outer_echoes(own, heard)
            self.assertEqual(inner_echoes(own, outer), heard)
            pushes = row(3, -1, 0, 2, "1/2", 1)
            log = log_of(held, pushes)
            self.assertEqual(echoes_of(log), heard)
            so = can_be(heard)
            self.assertEqual([could_show(own, outer), could_be(log)], [so, so])
            claims = (("told", heard), ("hole", own, outer), ("log", log))
            self.assertEqual(not_so(claims), () if so else (0, 1, 2))
            for claim in claims:
                for found in [claim_paper(other) for other in claims]:
                    self.assertIs(shows(claim, found), so)
            if not so:
                for against in (row_for_all(heard), why_none(own, outer), surely_gives(log)):
                    self.assertIs(is_row_for_all(heard, against), True)
                    self.assertLess(value(work_of(held, rest(held), against)), 0)
            elif is_keeper(held):
                self.assertIs(shows(claims[1], held), True)
                try:
                    self.assertEqual(echoes(outer_of(own, held), 6), outer)
                except TooMany:
                    pass

    def test_a_box_from_its_text_on(self):
        """From a text through an Office and the desk to its LOG, its CLAIMS and their PAPERS."""
        chance = random.Random(266)
        for own in some_boxes(chance, 20):
            text = box_text(own)
            office = Office(box_in(text))
            self.assertEqual(office.box_now(), own)
            lines = ["add damper 1/3", "times 2/5", "push 1 0 -1/2", "turn", "late 1", "undo", "box", "keeps"]
            told = replies(own, "\n".join(lines))
            last = last_office(own, "\n".join(lines))
            now = box_in(told[-2].replace(" | ", "\n"))
            self.assertEqual(last.box_now(), now)
            self.assertEqual(told[-1], "yes" if is_keeper(now) else "no")
            for edit in last.edits():
                office.do(edit)
            self.assertEqual(office, last)
            log = last.heard(row(2, 0, 1, -1))
            self.assertEqual(log_in(log_text(log)), log)
            if any(value(answer) for _, answer in log):
                claim = ("log", log)
                self.assertIs(shows(claim, claim_paper(claim)), is_so(claim))
                if last.keeps():
                    self.assertIs(shows(claim, now), True)
            claims = (("keeper", now), ("share", now, HALF), ("alone", now))
            found = [claim_paper(claim) for claim in claims]
            self.assertEqual([shows(*both) for both in zip(claims, found)], [is_so(claim) for claim in claims])
            if last.keeps():
                self.assertIs(is_store(now, found[0]), True)
            else:
                self.assertIs(is_one_part(now, last.alone()), True)
                self.assertIs(shows(claims[2], last.alone()), True)
            kept = not_so(claims)
            turned = turned_by(claims, damper(9))
            for k, claim in enumerate(claims):
                self.assertEqual(k in turned, (k in kept) == is_so(claim[:1] + (damper(9),) + claim[2:]))

    def test_what_is_told_goes_on(self):
        """KEEPERS told by a LOG are held by an Office, joined, taken apart, and judged."""
        chance = random.Random(267)
        for _ in range(25):
            own = keeper(chance)
            log = log_of(own, row(1, chance.randint(-2, 2), chance.randint(-2, 2)))
            for which in (0, 1):
                longer = log_end(log, O, which)
                found = end_box(echoes_of(log), which)
                self.assertEqual(log_of(found, tuple(push for push, _ in longer)), longer)
                office = Office(found)
                self.assertIs(office.keeps(), True)
                self.assertEqual(office.heard(tuple(push for push, _ in longer)), longer)
                self.assertFalse(runs_away(found, part_box(some_part(chance))))
                self.assertIs(is_store(found, claim_paper(("keeper", found))), True)
                most = most_spring(found)
                if most != O and len(found[0]) > 2:
                    left = taken(found, ("spring", most))
                    self.assertEqual(len(left[0]), len(found[0]) - 1)
                    self.assertIs(is_keeper(left), True)
                try:
                    self.assertIs(is_keeper(after_all(found)), True)
                except CanNot:
                    pass
            some = some_box(echoes_of(log))
            script = ((2, some_part(chance)), (3, some_part(chance)))
            self.assertEqual(script_in(script_text(script)), script)
            self.assertIs(stays(some, store(some), row(*range(len(some[0]) - 1)), script), True)

    def test_bounds_of_cells(self):
        for own in (spring(1), mass("1/3"), rim_pair((1, 3)), summed(spring(1), mass(2))):
            table = store(own)
            self.assertTrue(all(x > 0 for x in values(cell_bounds(table, ONE))))
        self.assertEqual(part_store(("spring", ONE)), store(spring(1)))

    def test_lists_and_tuples_all_through(self):
        own = lists(summed(spring(1), damper(2)))
        office = Office(own)
        office.do(["add", ["mass", [1, 2]]])
        now = office.box_now()
        self.assertEqual(repr(box_in(box_text(lists(now)))), repr(now))
        claim = ["company", lists(now), [1, 2]]
        self.assertEqual(repr(claim_paper(claim)), repr(claim_paper(("company", now, HALF))))
        self.assertIs(shows(claim, claim_paper(claim)), True)

    def test_far_numbers(self):
        tiny = Fraction(1, BIG)
        for own, kept in ((with_damper(spring(BIG), pair(tiny)), True), (box([1, 1 - tiny], [1, -1]), True),
                          (box([1, 1 + tiny], [1, -1]), False), (times(rim_pair((1 - BIG, BIG)), (BIG, 1)), True),
                          (damper(-tiny), False), (box([tiny, 1], [1, 0]), False)):
            self.assertIs(is_keeper(own), kept)
            claims = (("keeper", own), ("alone", own), ("pair", own), ("share", own, O), ("company", own, O))
            found = [claim_paper(claim) for claim in claims]
            self.assertEqual([shows(*both) for both in zip(claims, found)], [kept, not kept, not kept, kept, kept])
            self.assertEqual(turned_by(claims, damper(1)), () if kept else (0, 1, 2, 3, 4))
            self.assertEqual(turned_by(claims, damper(-1)), (0, 1, 2, 3, 4) if kept else ())
            left = less_damper(own, tiny)
            self.assertIs(is_so(("share", own, pair(tiny))), left is None or is_keeper(left))
            self.assertEqual(replies(own, "keeps"), ["yes" if kept else "no"])
        self.assertIs(is_so(("company", damper(-1), TWO)), True)
        self.assertIs(is_so(("company", damper(-1), pair(1 + tiny))), True)
        self.assertIs(is_so(("company", damper(-1), pair(1 - tiny))), False)
        self.assertIs(is_so(("told", (ONE, pair(2 + tiny)))), False)
        self.assertIs(is_so(("told", (ONE, LESS))), True)


if __name__ == "__main__":
    unittest.main()
