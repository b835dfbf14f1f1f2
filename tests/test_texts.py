"""Points 2, 3, 8 and 25: what is written, and read back as it was; each thing has one writing."""

import unittest
from itertools import product

from onemore.errors import NoDay, NoLinks, NoLog, NoStanding, NoText, NoYard
from onemore.texts import read_day, read_links, read_log, read_standing, read_yard
from onemore.texts import show_day, show_links, show_log, show_standing, show_yard
from tests.samples import BIG, Odd, all_asks, nested, refusal, small_yards, wrong_numbers, wrong_things

NINE = tuple(range(9))
WORDS = ("instead", "anew", "beside")

YARDS = [
    ((0,), "0"), ((1,), "1"), ((None,), "-"), ((10,), "10"), ((BIG,), "999999999999999"), ((1, 1, None), "1 1 -"),
    ((None, 0), "- 0"), ((None,) * 9, "- - - - - - - - -"), ((0,) * 9, "0 0 0 0 0 0 0 0 0"),
    ((0, 10, 200, None, 4, 5, 6, 7, 80), "0 10 200 - 4 5 6 7 80"),
]
STANDINGS = [
    ((0,), "0"), ((7,), "7"), ((100,), "100"), ((BIG,), "999999999999999"), ((0, 1, 1), "0 1 1"),
    ((0,) * 9, "0 0 0 0 0 0 0 0 0"), ((BIG,) * 9, " ".join(["999999999999999"] * 9)),
    ((9, 10, 11, 0, 1, 90, 99, 101, 1000), "9 10 11 0 1 90 99 101 1000"),
]
DAYS = [
    ([], "."), ([((), ())], ">"), ([((), ())] * 3, ">;>;>"), ([((0,), ())], "0>"), ([((), (8,))], ">8"),
    ([((0,), (0,))], "0>0"), ([((0, 1), (1, 2)), ((1,), ())], "0 1>1 2;1>"), ([((2, 0, 1), (8, 3))], "2 0 1>8 3"),
    ([(NINE, NINE[::-1])], "0 1 2 3 4 5 6 7 8>8 7 6 5 4 3 2 1 0"), ([((), ()), ((5,), ())], ">;5>"),
]
LOGS = [
    ([], ""), ([None], "."), ([None] * 3, ". . ."), ([(0, 1)], "0>1"), ([(0, None)], "0>x"), ([(8, 8)], "8>8"),
    ([(1, 1), (1, None), (2, None), None], "1>1 1>x 2>x ."), ([None, (0, 0), None], ". 0>0 ."),
]
LINKS = [
    ([], ""), ([(0, "instead", 0, 1)], "0:instead:0:1"), ([(0, "anew", 2, 2)], "0:anew:2:2"),
    ([(0, "anew", 8, None)], "0:anew:8:x"), ([(10, "beside", 1, None)], "10:beside:1:x"),
    ([(0, "instead", 0, 1), (0, "beside", 1, 2), (3, "anew", 2, 2)], "0:instead:0:1;0:beside:1:2;3:anew:2:2"),
    ([(9, "anew", 0, 0), (2, "beside", 0, 0), (2, "instead", 0, 0)], "9:anew:0:0;2:beside:0:0;2:instead:0:0"),
    ([(0, "anew", 0, 0)] * 2, "0:anew:0:0;0:anew:0:0"), ([(BIG, "anew", 0, 0)], "999999999999999:anew:0:0"),
]
ALL = [
    (show_yard, read_yard, YARDS), (show_standing, read_standing, STANDINGS), (show_day, read_day, DAYS),
    (show_log, read_log, LOGS), (show_links, read_links, LINKS),
]

# Texts that are wrong wherever a number stands alone: noughts ahead, signs, blanks and other marks too many.
WRONG_NUMBERS = [
    "00", "01", "007", "-0", "-1", "+1", "--", "1.0", "1e3", "1_0", "0x1", "a", "x", ".", "1,1", "1;1", "1>1", "1:1",
    " 1", "1 ", "1  1", " ", "  ", "\n", "1\n", "\n1", "1\n1", "1\t1", "\t", "\u00b2", "\u0661", "\uff11", "1\u00a01",
    "None", "(1,)", "1 01", "00 1", "1 -1", "1 x", "1 .", "~", "\u2460", "1\r", "\x0b1", "1\x1f1",
]


def wrong_kinds():
    """Things that are no text."""
    return [
        None, True, False, 0, 1, 1.0, b"", b"0", b".", (), ("0",), ["0"], [], {}, {"0": 0}, {"0"}, iter("0"), str,
        Odd(), 0j, bytearray(b"0"), nested(40, list),
    ]


def wrong_rows():
    """Things that are no row of a log."""
    rows = [True, False, 0, "", ".", "0>1", (), (0,), (0, 1, 2), [0, 1], {0: 1}, {0, 1}, Odd(), iter((0, 1)), ((0, 1),)]
    numbers = [number for number in wrong_numbers() if number is not None] + [9, 10, BIG]
    return rows + [(number, 1) for number in numbers + [None]] + [(0, number) for number in numbers + ["x"]]


def wrong_links():
    """Things that are no link."""
    rows = [None, True, 0, "", "0:anew:0:0", (), (0,), (0, "anew", 0), (0, "anew", 0, 0, 0), [0, "anew", 0, 0]]
    rows += [{0: "anew"}, Odd(), iter((0, "anew", 0, 0)), ((0, "anew", 0, 0),), ("anew", 0, 0, 0), (0, 0, "anew", 0)]
    words = ["", "Anew", "anew ", " anew", "new", "anewer", b"anew", None, True, 0, ("anew",), ["anew"], {}, {"anew"}]
    rows += [(0, word, 0, 0) for word in words + [Odd(), nested(37, list)]]
    numbers = [number for number in wrong_numbers() if number is not None] + [9, 10, BIG]
    for word in WORDS:
        rows += [(number, word, 0, 0) for number in wrong_numbers()]
        rows += [(0, word, number, 0) for number in numbers + [None]]
        rows += [(0, word, 0, number) for number in numbers + ["x"]]
    return rows + [(0, "instead", 0, None)]


class WritingTest(unittest.TestCase):
    def test_each_thing_and_its_writing(self):
        for show, read, table in ALL:
            for thing, text in table:
                with self.subTest(text=text):
                    self.assertEqual(show(thing), text)
                    self.assertEqual(read(text), thing)
                    self.assertIs(type(read(text)), type(thing))

    def test_the_kinds_of_what_is_read(self):
        def kinds(thing):
            return (type(thing), [kinds(part) for part in thing]) if isinstance(thing, (list, tuple)) else type(thing)

        for _, read, table in ALL:
            for thing, text in table:
                self.assertEqual(kinds(read(text)), kinds(thing))

    def test_what_is_read_is_a_new_one(self):
        for _, read, table in ALL:
            for thing, text in table:
                if isinstance(thing, list):
                    told = read(text)
                    self.assertIsNot(told, read(text))
                    told.append("changed")
                    self.assertEqual(read(text), thing)

    def test_all_small_ones(self):
        for yard in small_yards():
            self.assertEqual(read_yard(show_yard(yard)), yard)
        for standing in product((0, 1, 10, 99, BIG), repeat=3):
            self.assertEqual(read_standing(show_standing(standing)), standing)
        for day in product(all_asks(2), repeat=2):
            self.assertEqual(read_day(show_day(list(day))), list(day))
        rows = [None] + list(product(range(9), (*range(9), None)))
        for log in product(rows[::7] + rows[-2:], repeat=2):
            self.assertEqual(read_log(show_log(list(log))), list(log))
        links = [(ask, word, place, other) for ask, word, place, other in product((0, 12), WORDS, (0, 8), (0, 8, None))
                 if (word, other) != ("instead", None)]
        for pair in product(links, repeat=2):
            self.assertEqual(read_links(show_links(list(pair))), list(pair))

    def test_very_long_ones(self):
        self.assertEqual(read_day(show_day([(NINE, NINE)] * 70)), [(NINE, NINE)] * 70)
        self.assertEqual(read_log(show_log([(8, None)] * 750)), [(8, None)] * 750)
        self.assertEqual(read_links(show_links([(69, "instead", 8, 0)] * 200)), [(69, "instead", 8, 0)] * 200)
        for figures in (16, 1000, 3000, 5000):
            for show, read in ((show_yard, read_yard), (show_standing, read_standing)):
                self.assertEqual(read("1" + "0" * figures), (10 ** figures,))
                self.assertEqual(show((10 ** figures,)), "1" + "0" * figures)
        self.assertEqual(read_links("1" + "0" * 3000 + ":anew:0:x"), [(10 ** 3000, "anew", 0, None)])


class NoTextTest(unittest.TestCase):
    def test_no_text_at_all(self):
        for _, read, _ in ALL:
            for thing in wrong_kinds():
                with self.subTest(read=read, thing=thing):
                    self.assertIs(refusal(read, thing), NoText)

    def test_of_a_yard(self):
        right = ("-",)
        texts = WRONG_NUMBERS + ["", "- ", " -", "-  1", "1-", "-1-", "- - ", " - -", " ".join("0" * 10)]
        for text in texts + [" ".join("-" * 10), "-;-", ".", "1 1 None", "- 01", "1 - 00"]:
            self.assertIs(refusal(read_yard, text), None if text in right else NoText, text)

    def test_of_a_standing(self):
        for text in WRONG_NUMBERS + ["", "-", "1 -", "- 1", " ".join("0" * 10), "0  0", "0 0 ", " 0 0", "0 0 00"]:
            self.assertIs(refusal(read_standing, text), NoText, text)

    def test_of_a_day(self):
        texts = [
            "", " ", "..", ". .", ".;.", ";", ";;", ">;", ";>", "> ;>", "0>;.", ".;0>", "0", "0 1", "0>1>2", ">>", "0 >1",
            "0> 1", " 0>1", "0>1 ", "0  1>2", "0>1;", ";0>1", "0>1; 0>1", "0>1 ;0>1", "00>1", "0>00", "01>", ">01", "9>",
            ">9", "10>", ">10", "-1>", ">-1", "0 0>", ">0 0", "0 1 0>", ">3 2 3", "x>", ">x", "0>x", ".>", ">.", "0>1\n",
            "0\n>1", "0>1\n0>1", "0,1>", "0>1,0>1", "\u0661>", ">\u00b2", "0>1 2;1>;00>", " .", ". ", "0 1>1 2;1", "0<1",
        ]
        for text in texts:
            self.assertIs(refusal(read_day, text), NoText, text)

    def test_of_a_log(self):
        texts = [
            " ", "  ", "..", ".  .", " .", ". ", "0", "0>", ">0", ">", "0>1 ", " 0>1", "0>1  0>1", "0>1;0>1", "0>1>2", "x",
            "x>0", "x>x", "0>X", "0>-", "0>None", "00>1", "0>01", "9>0", "0>9", "10>0", "-1>0", "0>-1", "0> 1", "0 >1", "0 1",
            "0>.", ".>0", "0>1\n", "\n", ".\n.", "0>xx", "0>1x", "\u0661>0", "0>\u00b2", "0>1,0>1", ";", "0>1 00>1",
        ]
        for text in texts:
            self.assertIs(refusal(read_log, text), NoText, text)

    def test_of_links(self):
        texts = [
            " ", ";", ".", "x", "0", ":", ":::", "0:anew:0", "0:anew:0:", ":anew:0:0", "0::0:0", "0:anew::0", "0:anew:0:0:0",
            "0:anew:0:0;", ";0:anew:0:0", "0:anew:0:0;;0:anew:0:0", "0:anew:0:0; 0:anew:0:0", "0:anew:0:0 ", " 0:anew:0:0",
            "0: anew:0:0", "0:anew :0:0", "0:Anew:0:0", "0:ANEW:0:0", "0:new:0:0", "0:insteadd:0:0", "0:instead:0:x",
            "0:anew:x:0", "0:beside:x:x", "x:anew:0:0", "00:anew:0:0", "01:anew:0:0", "0:anew:00:0", "0:anew:0:00",
            "0:anew:9:0", "0:anew:0:9", "0:anew:10:0", "0:anew:0:10", "-1:anew:0:0", "0:anew:-1:0", "0:anew:0:-1",
            "0:anew:0:-", "0:anew:0:.", "0:anew:0:None", "0:anew:0>0", "0:anew:0:0\n", "+1:anew:0:0", "1.0:anew:0:0",
            "\u0661:anew:0:0", "0:anew:\u00b2:0", "0:anew:0:0,0:anew:0:0", "0;anew;0;0", "anew:0:0:0", "0:anew:0:X",
        ]
        for text in texts:
            self.assertIs(refusal(read_links, text), NoText, text)

    def check_all_texts(self, signs, longest, readers):
        """Of all texts of these signs: each is refused, or it is the writing of what it is read as."""
        told = {}
        for many in range(longest + 1):
            for row in product(signs, repeat=many):
                text = "".join(row)
                for show, read in readers:
                    if refusal(read, text) is None:
                        self.assertEqual(show(read(text)), text)
                        told[read] = told.get(read, 0) + 1
                    else:
                        self.assertIs(refusal(read, text), NoText, text)
        return told

    def test_all_texts_of_few_signs(self):
        numbers = [(show_yard, read_yard), (show_standing, read_standing)]
        told = self.check_all_texts("012- ", 5, numbers)
        # With noughts and blanks left out where they may not stand: so many are left.
        self.assertEqual(told[read_standing], sum(self.writings(many) for many in range(6)))
        self.check_all_texts("089.>; x", 5, [(show_day, read_day), (show_log, read_log)])
        self.check_all_texts([":", ";", "0", "10", "9", "x", "anew", "instead", " "], 4, [(show_links, read_links)])
        told = self.check_all_texts(["0:", "10:", "anew:", "instead:", "8", "x", ";", "."], 5, [(show_links, read_links)])
        # The empty one, and of the asks 0, 10, 80 and 810 at place 0: anew to 8 and carried off, instead to 8.
        self.assertEqual(told, {read_links: 1 + 4 * 3})

    def writings(self, many):
        """How many texts of so many signs of 0, 1, 2, - and the blank write a standing."""
        if many == 0:
            return 0
        # A number of so many figures: one that does not begin with 0, or 0 itself.
        numbers = [0] + [2 * 3 ** (figures - 1) + (figures == 1) for figures in range(1, many + 1)]
        return numbers[many] + sum(numbers[first] * self.writings(many - first - 1) for first in range(1, many))

    def test_one_sign_that_is_another(self):
        for show, read, table in ALL:
            for _, text in table:
                for at in range(len(text) + 1):
                    for sign in ["", *" 0189-.>;:xa\n~"]:
                        for other in (text[:at] + sign + text[at:], text[:at] + sign + text[at + 1:]):
                            if refusal(read, other) is None:
                                self.assertEqual(show(read(other)), other)
                            else:
                                self.assertIs(refusal(read, other), NoText)


class RefusalTest(unittest.TestCase):
    def test_no_yard(self):
        for thing in wrong_things() + [(None,) * 10, "1 1", [None]]:
            self.assertIs(refusal(show_yard, thing), NoYard)

    def test_no_standing(self):
        for thing in wrong_things() + [(None,), (1, None), (0,) * 10, [0], "0"]:
            self.assertIs(refusal(show_standing, thing), NoStanding)
        for number in wrong_numbers():
            for thing in ((number,), (0, number), (number, 0)):
                self.assertIs(refusal(show_standing, thing), NoStanding)

    def test_no_day(self):
        for thing in wrong_things():
            # Of nine places 2 is the number of one.
            if thing not in ([((2,), ())], [((), (2,))]):
                self.assertIs(refusal(show_day, thing), NoDay)
        for thing in ([((9,), ())], [((), (9,))], [((0,), ()), ((0, 9), ())], (), ".", [[(0, 1), (1, 2)]], [(0, 1)]):
            self.assertIs(refusal(show_day, thing), NoDay)
        self.assertEqual(show_day([((8,), (8,))]), "8>8")

    def test_no_log(self):
        for thing in [None, True, 0, "", ".", b"", (), (None,), ((0, 1),), {}, {0: 1}, iter([]), Odd(), nested(40, list)]:
            self.assertIs(refusal(show_log, thing), NoLog)
        for row in wrong_rows():
            with self.subTest(row=row):
                for log in ([row], [None, row], [row, (0, 1)]):
                    self.assertIs(refusal(show_log, log), NoLog)

    def test_no_links(self):
        things = [None, True, 0, "", b"", (), ((0, "anew", 0, 0),), {}, iter([]), Odd(), nested(40, list), "0:anew:0:0"]
        for thing in things:
            self.assertIs(refusal(show_links, thing), NoLinks)
        for link in wrong_links():
            with self.subTest(link=link):
                for links in ([link], [(0, "anew", 0, 0), link], [link, (1, "beside", 0, None)]):
                    self.assertIs(refusal(show_links, links), NoLinks)


if __name__ == "__main__":
    unittest.main()
