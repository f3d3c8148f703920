"""Tests of texts [6]."""

import unittest

from heavycut.errors import NoText
from heavycut.texts import read_web, show_web
from heavycut.webs import made_web
from samples import STRANGE, check_repeated, random_web, sample_webs

EXAMPLE = "4 0-1=3 0-3=-1/2 2-3=0"
PAIRS = [(one, other) for one in range(60) for other in range(one + 1, 60)]


class TestWritten(unittest.TestCase):
    def test_example(self):
        web = made_web(4, [(0, 1, (3, 1)), (0, 3, (-1, 2)), (2, 3, (0, 1))])
        self.assertEqual(show_web(web), EXAMPLE)
        self.assertEqual(repr(read_web(EXAMPLE)), repr(web))

    def test_one_point(self):
        self.assertEqual(show_web((1, ())), "1")
        self.assertEqual(repr(read_web("1")), "(1, ())")
        self.assertEqual(repr(read_web("60")), "(60, ())")

    def test_weights_at_their_bounds(self):
        for weight, word in (((1000000000, 1), "1000000000"), ((-1000000000, 1), "-1000000000"), ((1, 1000), "1/1000"),
                             ((-1000000000, 999), "-1000000000/999"), ((1000000000, 999), "1000000000/999")):
            web = made_web(60, [(58, 59, weight)])
            self.assertEqual(show_web(web), "60 58-59=" + word)
            self.assertEqual(repr(read_web("60 58-59=" + word)), repr(web))

    def test_there_and_back(self):
        webs = sample_webs() + [random_web(60, 170, seed) for seed in range(3)]
        webs.append(made_web(60, [pair + ((-1000000000, 999),) for pair in PAIRS[-170:]]))
        for web in webs:
            text = check_repeated(self, show_web, web)
            self.assertLessEqual(len(text), 8000)
            self.assertEqual(repr(check_repeated(self, read_web, text)), repr(web))


class TestRefused(unittest.TestCase):
    def refused(self, text):
        with self.assertRaises(NoText, msg=repr(text)):
            read_web(text)

    def test_blanks_and_line_ends(self):
        for text in ("", " ", "\n", " 4", "4 ", "4  0-1=3", "4 0-1=3 ", " 4 0-1=3", "4 0-1=3  2-3=0", "40-1=3",
                     "4 0-1=32-3=0", "4\n", "\n4", "4\n0-1=3", "4 0-1=3\n", "\n4 0-1=3", "4 0-1=3\n2-3=0",
                     "4 0 -1=3", "4 0- 1=3", "4 0-1 =3", "4 0-1= 3", "4 0-1=3 /2", "4 0-1=3/ 2", "4\t0-1=3",
                     EXAMPLE + " ", EXAMPLE + "\n", " " + EXAMPLE, "\n" + EXAMPLE, EXAMPLE + "\r"):
            self.refused(text)

    def test_needless_signs_and_zeros(self):
        for word in ("+3", "03", "003", "-0", "+0", "00", "-03", "3/1", "-3/1", "0/1", "2/4", "0/5", "-2/4", "3/3",
                     "1/02", "1/+2", "+1/2", "01/2", "-01/2", "1_0", "3.", "3.0", "1e3", "0x3", "--3", "- 3", "+-3"):
            self.refused("2 0-1=" + word)
        for text in ("02", "+2", "-2", "2.0", "02 0-1=3", "+2 0-1=3", "2 00-1=3", "2 0-01=3", "2 +0-1=3", "2 0-+1=3",
                     "2 -0-1=3", "2 0--1=3", "2 0-1=3=3", "2 0=1=3", "2 0-1-1=3", "2 0-1-3", "2 0-1=3/2/1", "1_2"):
            self.refused(text)

    def test_wrong_bottoms(self):
        for word in ("1/0", "0/0", "1/-2", "-1/-2", "1/", "/2", "/", "-", "", "-/2"):
            self.refused("2 0-1=" + word)

    def test_wrong_ties(self):
        for text in ("3 1-2=1 0-1=1", "3 0-2=1 0-1=1", "3 0-1=1 0-1=1", "3 0-1=1 0-1=2", "3 1-0=1", "3 0-1=1 1-0=1",
                     "3 0-0=1", "3 0-3=1", "3 3-4=1", "1 0-1=1", "3 0-1", "3 0-1=", "3 =1", "3 -=1", "3 0-=1",
                     "3 -1=1", "3 01=1", "3 a-b=1", "3 0-1=a", "a", "3 3", "3 0-1=1 3", "0-1=1"):
            self.refused(text)

    def test_beyond_the_bounds(self):
        ties = [f" {one}-{other}=1" for one, other in PAIRS[:171]]
        self.assertEqual(len(read_web("60" + "".join(ties[:170]))[1]), 170)
        self.refused("60" + "".join(ties))
        for text in ("0", "61", "-1", "61 0-1=1", "2 0-1=1000000001", "2 0-1=-1000000001", "2 0-1=1/1001",
                     "2 0-1=9999999999", "2 0-1=10000000000", "60 58-60=1"):
            self.refused(text)

    def test_very_long_rows_of_digits(self):
        for many in (11, 100, 999, 4299, 4300, 4301, 7000, 20000):
            for digits in ("1" * many, "0" * many, "0" * many + "1"):
                for text in (digits, "-" + digits, "2 0-1=" + digits, "2 0-1=-" + digits, "2 0-1=1/" + digits,
                             "2 " + digits + "-1=1", "2 0-" + digits + "=1"):
                    self.refused(text)

    def test_digits_of_other_writings(self):
        for text in ("\u0663", "2 0-1=\u0663", "2 0-1=\u00b2", "\uff12"):
            self.refused(text)

    def test_one_sign_more_fewer_or_other(self):
        for place in range(len(EXAMPLE) + 1):
            for sign in " -+=/0123456789\nx":
                for text in (EXAMPLE[:place] + sign + EXAMPLE[place:], EXAMPLE[:place] + sign + EXAMPLE[place + 1:],
                             EXAMPLE[:place] + EXAMPLE[place + 1:]):
                    try:
                        web = read_web(text)
                    except NoText:
                        continue
                    self.assertEqual(made_web(web[0], web[1]), web)
                    self.assertEqual(show_web(web), text)

    def test_no_texts(self):
        for thing in STRANGE + (b"1", b"4 0-1=3", ["1"], ("1",), {"1": 1}, (1, ()), 1, None, [], ()):
            if thing != "1":
                self.refused(thing)


if __name__ == "__main__":
    unittest.main()
