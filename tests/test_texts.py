"""Point [23]: texts of FRACTIONS, BOXES, SCRIPTS and LOGS."""

import random
import unittest
from fractions import Fraction

from keepcompany.boxes import is_box, is_small
from keepcompany.errors import BadText, Unfit
from keepcompany.logs import is_log, log_of
from keepcompany.texts import (box_in, box_text, fraction_in, fraction_text, log_in, log_text, script_in, script_text)
from keepcompany.told import end_box, from_steps
from keepcompany.whoever import is_script

from helpers import BIG, HALF, LESS, O, ONE, TWO, any_fraction, box, lists, pair, row, small_pairs
from makers import damper, keeper, small_box

NO_NUMBERS = ("", " ", "-", "+1", "01", "00", "-0", "-01", "1 ", " 1", "1.0", "1e3", "1_0", "0x1", "1,0", "a", "--1", "1-",
              "1\n", "\n1", "1\t", "\u0661", "\u00b2", "1\u00a0", "\uff11", "None", "True", "1\r", "\x001")
NO_FRACTIONS = NO_NUMBERS + ("1/", "/1", "/", "1/1", "2/4", "0/1", "0/2", "1/0", "1/-2", "-1/-2", "1/02", "01/2", "1//2",
                             "1/2/3", "1 /2", "1/ 2", "-/2", "-0/3", "4/2", "1/+2", "3/3", "1/2 ", "1/2\n", "1\\2", "0/0")


class FractionTextTests(unittest.TestCase):

    def test_there_and_back(self):
        chance = random.Random(231)
        for _ in range(300):
            f = Fraction(chance.randint(-10 ** chance.randint(1, 50), 10 ** chance.randint(1, 50)),
                         chance.randint(1, 10 ** chance.randint(1, 50)))
            self.assertEqual(fraction_text(pair(f)), str(f))
            self.assertEqual(fraction_in(str(f)), pair(f))
        for f, text in ((O, "0"), (ONE, "1"), (LESS, "-1"), (HALF, "1/2"), ((-7, 3), "-7/3"), ((10, 1), "10"),
                        ((BIG, BIG - 1), f"{BIG}/{BIG - 1}"), ((-BIG, 1), f"-{BIG}")):
            self.assertEqual(fraction_text(f), text)
            self.assertEqual(fraction_text(list(f)), text)
            self.assertEqual(fraction_in(text), f)

    def test_thousands_of_figures(self):
        for many in (1, 63, 64, 65, 127, 128, 129, 640, 4000, 6000, 20000):
            for figures in ("7" * many, "1" + "0" * (many - 1), "9" * many):
                told = fraction_in(figures)
                self.assertEqual(told[1], 1)
                self.assertEqual(told[0], by_figures(figures))
                self.assertEqual(fraction_text(told), figures)
                self.assertEqual(fraction_text((-told[0], 1)), "-" + figures)
                below = "1" + "0" * (many - 1) + "1"
                self.assertEqual(fraction_text((1, by_figures(below))), "1/" + below)
                self.assertEqual(fraction_in("-1/" + below), (-1, by_figures(below)))
            for wrong in ("0" + "7" * many, "7" * many + "x", "x" + "7" * many, "7" * many + "/" + "7" * many):
                with self.assertRaises(BadText):
                    fraction_in(wrong)

    def test_words_that_are_none(self):
        for word in NO_FRACTIONS:
            with self.subTest(word=word):
                with self.assertRaises(BadText) as caught:
                    fraction_in(word)
                self.assertEqual(caught.exception.line, 0)
        for wrong in (None, True, 1, (1, 2), ["1"], b"1", 1.5):
            with self.assertRaises(Unfit):
                fraction_in(wrong)
        for wrong in (None, 1, True, (2, 4), (1, 0), (1, -2), "1", (1,), (True, 1), (1, 2, 3)):
            with self.assertRaises(Unfit):
                fraction_text(wrong)


def by_figures(word):
    out = 0
    for sign in word:
        out = out * 10 + "0123456789".index(sign)
    return out


class KindsOfTextTests(unittest.TestCase):

    def check(self, reading, text, line):
        with self.subTest(text=text):
            with self.assertRaises(BadText) as caught:
                reading(text)
            self.assertEqual(caught.exception.line, line)

    def test_boxes_there_and_back(self):
        chance = random.Random(232)
        for own in ([small_box(chance, chance.randint(0, 5)) for _ in range(80)] + [keeper(chance) for _ in range(40)]
                    + [damper(Fraction(-BIG, 7)), end_box(from_steps(ONE, row(*["1/3"] * 11)), 1)]):
            tops, bottoms = [" ".join(str(Fraction(*f)) for f in part) for part in own]
            text = f"tops {tops}\nbottoms {bottoms}"
            self.assertEqual(box_text(own), text)
            self.assertEqual(box_text(lists(own)), text)
            self.assertEqual(box_in(text), own)
        thirteen = box([1] + [0] * 11 + [1], [1] + [0] * 12)
        self.assertEqual(box_in(box_text(thirteen)), thirteen)
        for wrong in (None, (), box([1, 1], [1, 1]), ((O,), (ONE,)), "tops 1\nbottoms 1", ((TWO,), (TWO,))):
            with self.assertRaises(Unfit):
                box_text(wrong)

    def test_boxes_that_are_ill_written(self):
        for text, line in (
                ("", 0), ("\n", 0), ("\n\n", 0), ("tops", 0), ("tops ", 0), (" tops 1", 0), ("Tops 1\nbottoms 1", 0),
                ("top 1\nbottoms 1", 0), ("tops  1\nbottoms 1", 0), ("tops 1 \nbottoms 1", 0), ("tops 0\nbottoms 1", 0),
                ("tops 0 0\nbottoms 1 1", 0), ("tops 1/1\nbottoms 1", 0), ("tops 1, 2\nbottoms 1 1", 0),
                ("tops\t1\nbottoms 1", 0), ("bottoms 1\ntops 1", 0), ("1\n1", 0), ("tops 1\rbottoms 1", 0),
                ("tops " + " ".join("1" * 14) + "\nbottoms " + " ".join("1" * 14), 0), ("tops 1\r\nbottoms 1", 0),
                ("tops 1", 1), ("tops 1 0", 1), ("tops 1\n", 1), ("tops 1\n\n", 1), ("tops 1\nbottoms", 1),
                ("tops 1\nbottoms ", 1), ("tops 1\nbottoms 2", 1), ("tops 1\nbottoms 0", 1), ("tops 1\nbottoms 1 1", 1),
                ("tops 1 2\nbottoms 1", 1), ("tops 1 1\nbottoms 1 1", 1), ("tops 1 0\nbottoms 1 0", 1),
                ("tops 1 2\nbottoms 1 02", 1), ("tops 1\ntops 1", 1), ("tops 1\nbottoms 1 ", 1), ("tops 1\n bottoms 1", 1),
                ("tops 1\nbottoms  1", 1), ("tops 1\nbottom 1", 1), ("tops 1 2\nbottoms -1 1", 1), ("tops 1\nx\ny", 1),
                ("tops " + " ".join("1" * 13), 1), ("tops 1 0 -1\nbottoms 1 -2 1", 1),
                ("tops 1\nbottoms 1\n", 2), ("tops 1\nbottoms 1\nx", 2), ("tops 1\nbottoms 1\nbottoms 1", 2),
                ("tops 1\nbottoms 1\n\n", 2), ("tops 1\nbottoms 1\ntops 1\nbottoms 1", 2)):
            self.check(box_in, text, line)
        self.assertEqual(box_in("tops 0 1\nbottoms 1 0"), box([0, 1], [1, 0]))
        for wrong in (None, 1, True, ("tops 1", "bottoms 1"), ["tops 1"], b"tops 1\nbottoms 1"):
            for reading in (box_in, script_in, log_in):
                with self.assertRaises(Unfit):
                    reading(wrong)

    def test_each_top_and_bottom(self):
        for word in NO_FRACTIONS:
            if "\n" not in word and " " not in word:
                self.check(box_in, f"tops 1 {word}\nbottoms 1 0", 0)
                self.check(box_in, f"tops 1 1\nbottoms 1 {word}", 1)
                self.check(log_in, f"1 1\n{word} 1", 1)
                self.check(log_in, f"1 {word}\n1 1", 0)
                self.check(script_in, f"1 spring 1\n3 mass {word}", 1)

    def test_all_small_texts(self):
        """Each text of a few words is that of the BOX it tells, or of none."""
        for tops in small_pairs():
            for bottoms in small_pairs():
                text = f"tops {tops}\nbottoms {bottoms}"
                own = tuple(tuple(pair(Fraction(word)) for word in part.split(" ")) for part in (tops, bottoms))
                if is_box(own) and is_small(own):
                    self.assertEqual(box_in(text), own)
                    self.assertEqual(box_text(own), text)
                else:
                    with self.assertRaises(BadText) as caught:
                        box_in(text)
                    self.assertEqual(caught.exception.line, 0 if not any(f[0] for f in own[0]) else 1)

    def test_scripts(self):
        chance = random.Random(233)
        for _ in range(100):
            script = tuple((chance.choice((1, 2, 40, 10 ** 50)), (chance.choice(("spring", "mass", "damper")),
                                                                pair(abs(any_fraction(chance)) + Fraction(1, 7))))
                           for _ in range(chance.randint(0, 5)))
            text = "\n".join(f"{beats} {kind} {Fraction(*amount)}" for beats, (kind, amount) in script)
            self.assertIs(is_script(script), True)
            self.assertEqual(script_text(script), text)
            self.assertEqual(script_text(lists(script)), text)
            self.assertEqual(script_in(text), script)
        self.assertEqual(script_in(""), ())
        self.assertEqual(script_text([]), "")
        for text, line in (("\n", 0), (" ", 0), ("1 spring 1\n", 1), ("\n1 spring 1", 0), ("1 spring 1\n\n1 mass 1", 1),
                           ("0 spring 1", 0), ("-1 spring 1", 0), ("01 spring 1", 0), ("1/2 spring 1", 0), ("spring 1", 0),
                           ("1 spring", 0), ("1 spring 0", 0), ("1 spring -1", 0), ("1 Spring 1", 0), ("1 rod 1", 0),
                           ("1 spring 1 1", 0), ("1  spring 1", 0), ("1 spring 1 ", 0), (" 1 spring 1", 0), ("+1 spring 1", 0),
                           ("1 spring 1\n2 mass 2\n3 damper 2/4", 2), ("1 spring 1,1 mass 1", 0), ("one spring 1", 0),
                           ("2 damper 1\n1 springs 1", 1), ("1 1 spring", 0), ("spring 1 1", 0), ("1.0 spring 1", 0)):
            self.check(script_in, text, line)
        for wrong in (None, "", "1 spring 1", ((0, ("spring", ONE)),), ((1, ("rod", ONE)),), (1, ("spring", ONE)), 5):
            with self.assertRaises(Unfit):
                script_text(wrong)

    def test_logs(self):
        chance = random.Random(234)
        for _ in range(80):
            pushes = row(chance.choice((-1, 1, "3/7")), *[any_fraction(chance) for _ in range(chance.randint(0, 13))])
            log = log_of(small_box(chance, chance.randint(0, 3)), pushes)
            text = "\n".join(f"{Fraction(*push)} {Fraction(*answer)}" for push, answer in log)
            self.assertIs(is_log(log), True)
            self.assertEqual(log_text(log), text)
            self.assertEqual(log_text(lists(log)), text)
            self.assertEqual(log_in(text), log)
        many = "\n".join(["1 0"] + ["0 -1/2"] * 99)
        self.assertEqual(log_text(log_in(many)), many)
        for text, line in (("", 0), ("\n", 0), ("1", 0), ("1 1 1", 0), ("0 1", 0), ("0 0\n1 1", 0), ("1 1\n", 1), ("1 1\n\n", 1),
                           ("1 1\n0", 1), ("1 1\n0 0\n1 1 1", 2), ("1  1", 0), (" 1 1", 0), ("1 1 ", 0), ("1,1", 0), ("1 -0", 0),
                           ("-0 1", 0), ("1 1\n1/1 1", 1), ("\n1 1", 0), ("1 1\n \n1 1", 1), ("1\t1", 0), ("push 1 1", 0)):
            self.check(log_in, text, line)
        self.assertEqual(log_in("1 1\n0 1"), ((ONE, ONE), (O, ONE)))
        for wrong in (None, (), "1 1", ((O, ONE),), (ONE, ONE), ((ONE,),), 5):
            with self.assertRaises(Unfit):
                log_text(wrong)

    def test_what_is_read_is_written_again(self):
        for reading, writing, texts in (
                (box_in, box_text, ("tops 2/3\nbottoms 1", "tops 1 1/2\nbottoms 1 -1", "tops 0 0 5\nbottoms 1 0 -7/9")),
                (script_in, script_text, ("", "3 spring 1/2\n1 mass 5", "123456789 damper 1/99")),
                (log_in, log_text, ("1 0\n-1/2 7", "-5/3 -5/3")),
                (fraction_in, fraction_text, ("0", "-3/2", "1" + "0" * 400))):
            for text in texts:
                self.assertEqual(writing(reading(text)), text)
                self.assertEqual(reading(writing(reading(text))), reading(text))


if __name__ == "__main__":
    unittest.main()
