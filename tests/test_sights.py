"""Points 2, 3, 8 and 16: what was seen of a day, and the standings it can have begun with."""

import unittest
from itertools import product
from random import Random

from onemore.errors import NoDay, NoNumber, NoSight, NoStanding, NoYard, TooMany
from onemore.sights import can_be, seen
from onemore.yards import served
from tests.samples import BIG, Odd, drawn_case, drawn_small_case, greatest_of, least_of, nowhere_more, refusal
from tests.samples import small_standings, small_yards, too_many, wrong_numbers, wrong_things

# Of two asks, so a sight has two marks.
TWO = [((0,), (1,)), ((1, 0), ())]


def wrong_sights():
    """Things that are no sight of a day of two asks."""
    rows = [thing for thing in wrong_things() if thing != [None, None]]
    rows += [(True, False), (None, None), {0: True, 1: None}, "10", iter([None, None]), [], [None], [True] * 3]
    marks = [0, 1, -1, 1.0, 0.0, "", "True", b"", (), (True,), [], [None], {}, set(), Odd(), bool, NotImplemented]
    return rows + [row for mark in marks for row in ([mark, None], [True, mark], [mark, mark])]


def shows_all(yard, standing, day, sight):
    """Whether all is so, by who is served."""
    asked = served(yard, standing, day)
    return all(mark is None or mark == (number in asked) for number, mark in enumerate(sight))


def all_within(yard, things):
    """All standings of at most so many things."""
    ranges = [range((things if room is None else min(room, things)) + 1) for room in yard]
    return [row for row in product(*ranges) if sum(row) <= things]


def drawn_sights(seed, day):
    """Sights of the day, the same for each seed: of all kinds of marks, and of few marks."""
    draw = Random(seed)
    marks = ([True, False], [None], [True, None], [False, None], [True, False, None, None])
    return [[draw.choice(row) for _ in day] for row in marks]


class CanBeTest(unittest.TestCase):
    def test_served_and_without(self):
        self.assertIs(can_be((5,), (1,), [((0,), ())], [True]), True)
        self.assertIs(can_be((5,), (1,), [((0,), ())], [False]), False)
        self.assertIs(can_be((5,), (1,), [((0,), ())], [None]), True)
        self.assertIs(can_be((5,), (0,), [((0,), ())], [True]), False)
        self.assertIs(can_be((5,), (0,), [((0,), ())], [False]), True)
        self.assertIs(can_be((5,), (0,), [((0,), ())], [None]), True)

    def test_all_marks_are_asked(self):
        told = [list(sight) for sight in product((True, False), repeat=3)
                if can_be((5, 5), (1, 0), [((0,), ()), ((0,), ()), ((0, 1), (0,))], list(sight))]
        self.assertEqual(told, [[True, False, False]])
        day = [((0,), ())] * 70
        self.assertIs(can_be((99,), (69,), day, [True] * 69 + [False]), True)
        self.assertIs(can_be((99,), (69,), day, [None] * 69 + [True]), False)
        self.assertIs(can_be((99,), (69,), day, [True] * 68 + [False] + [None]), False)

    def test_what_was_not_seen_is_gone_through(self):
        self.assertIs(can_be((5, 5), (1, 0), [((0,), (1,)), ((1,), ())], [None, True]), True)
        self.assertIs(can_be((5, 5), (1, 0), [((0,), ()), ((0,), ())], [None, True]), False)

    def test_no_asks_no_wants_no_leaves_no_rooms(self):
        self.assertIs(can_be((0,), (0,), [], []), True)
        self.assertIs(can_be((None,) * 9, (BIG,) * 9, [], []), True)
        self.assertIs(can_be((5,), (5,), [((), (0,))], [False]), True)
        self.assertIs(can_be((5,), (5,), [((), (0,))], [True]), False)
        self.assertIs(can_be((0, 1), (0, 1), [((1,), (0,)), ((0, 1), (0,))], [True, False]), True)

    def test_by_who_is_served(self):
        told = []
        for seed in range(300):
            yard, standing, day = drawn_case(seed)
            asked = served(yard, standing, day)
            right = [number in asked for number in range(len(day))]
            self.assertIs(can_be(yard, standing, day, right), True)
            for number in range(len(day)):
                wrong = [mark if at != number else not mark for at, mark in enumerate(right)]
                self.assertIs(can_be(yard, standing, day, wrong), False)
            for sight in drawn_sights(seed, day):
                told.append(can_be(yard, standing, day, sight))
                self.assertIs(told[-1], shows_all(yard, standing, day, sight))
        self.assertGreater(min(told.count(True), told.count(False)), 200)


class SeenTest(unittest.TestCase):
    def test_no_asks(self):
        self.assertEqual(seen((None,), [], [], 3), ([(0,)], [(3,)]))
        self.assertEqual(seen((2,), [], [], 3), ([(0,)], [(2,)]))
        self.assertEqual(seen((None, None), [], [], 2), ([(0, 0)], [(0, 2), (1, 1), (2, 0)]))
        self.assertEqual(seen((1, 1), [], [], 5), ([(0, 0)], [(1, 1)]))
        self.assertEqual(seen((1, None), [], [], 2), ([(0, 0)], [(0, 2), (1, 1)]))

    def test_no_things_and_rooms_of_nought(self):
        self.assertEqual(seen((None,) * 9, [], [], 0), ([(0,) * 9], [(0,) * 9]))
        self.assertEqual(seen((0, 0), [((0, 1), ())], [None], 5), ([(0, 0)], [(0, 0)]))
        self.assertEqual(seen((0, 0), [((0, 1), ())], [False], 5), ([(0, 0)], [(0, 0)]))
        self.assertEqual(seen((0, 0), [((0, 1), ())], [True], 5), ([], []))
        self.assertEqual(seen((5,), [((0,), ())], [True], 0), ([], []))

    def test_served_and_without(self):
        self.assertEqual(seen((None,), [((0,), ())] * 3, [None, True, False], 9), ([(2,)], [(2,)]))
        self.assertEqual(seen((None,), [((0,), ())] * 3, [None, True, None], 9), ([(2,)], [(9,)]))
        self.assertEqual(seen((None,), [((0,), ())] * 3, [None, None, False], 9), ([(0,)], [(2,)]))
        self.assertEqual(seen((None,), [((0,), ())] * 3, [False, True, None], 9), ([], []))
        self.assertEqual(seen((None, None), [((0, 1), ())], [True], 2), ([(0, 1), (1, 0)], [(0, 2), (1, 1), (2, 0)]))
        self.assertEqual(seen((None, None), [((0,), ())], [False], 2), ([(0, 0)], [(0, 2)]))
        self.assertEqual(seen((None, None), [((), ())], [True], 2), ([], []))

    def test_a_place_that_is_full(self):
        # Only where place 1 is full does the taken thing go on to place 2.
        self.assertEqual(seen((1, 1, 1), [((0,), (1, 2)), ((2,), ())], [True, True], 2), ([(1, 0, 1), (1, 1, 0)],) * 2)

    def check(self, yard, day, sight, things):
        """By the words: those of all standings that show the sight, the least and the greatest."""
        standings = all_within(yard, things)
        found = [row for row in standings if shows_all(yard, row, day, sight)]
        least, greatest = seen(yard, day, sight, things)
        self.assertEqual((least, greatest), (least_of(found), greatest_of(found)), (yard, day, sight, things))
        between = [
            row for row in standings
            if any(nowhere_more(one, row) for one in least) and any(nowhere_more(row, one) for one in greatest)
        ]
        self.assertEqual(between, found)
        return len(found)

    def test_as_the_words_tell_it(self):
        told = []
        for seed in range(150):
            yard, day = drawn_small_case(seed, [[None], [0, 1, 2], [0, 1, 3, None]][seed % 3])
            for sight in drawn_sights(seed, day):
                told.append(self.check(yard, day, sight, seed % 6))
        self.assertGreater(sum(many == 0 for many in told), 50)
        self.assertGreater(sum(many > 5 for many in told), 50)

    def test_small_yards_and_all_sights_of_a_day(self):
        for yard in small_yards():
            places = tuple(range(len(yard)))
            day = [(places, places[::-1]), (places[:1], ()), (places[::-1], places)]
            for sight in product((True, False, None), repeat=3):
                self.check(yard, day, list(sight), 3)

    def test_nine_places(self):
        least, greatest = seen((1,) * 9, [(tuple(range(9)), ())] * 2, [True, False], 3)
        self.assertEqual(least, sorted(row for row in small_standings((1,) * 9) if sum(row) == 1))
        self.assertEqual(greatest, least)

    def test_the_two_told_lists_are_two(self):
        for given in (((None,), [], [], 0), ((0,), [((0,), ())], [True], 3)):
            least, greatest = seen(*given)
            self.assertEqual(least, greatest)
            self.assertIsNot(least, greatest)


class MostTest(unittest.TestCase):
    def test_just_so_many_and_one_fewer(self):
        # Of three places, so many standings of at most 0, 1, 2, 3 things there are.
        for things, many in enumerate((1, 4, 10, 20)):
            self.assertEqual(len(all_within((None,) * 3, things)), many)
            for yard in ((None,) * 3, (0, 0, 0), (1, None, 0)):
                self.assertIsNone(refusal(seen, yard, [], [], things, most=many))
                self.assertEqual(seen(yard, [], [], things, most=many), seen(yard, [], [], things, most=BIG))
                if many > 1:
                    self.assertIs(refusal(seen, yard, [], [], things, most=many - 1), TooMany)
                    self.assertEqual(too_many(seen, yard, [], [], things, most=many - 1), many - 1)

    def test_unless_told_five_thousand(self):
        for yard in ((None,), (3,), (0,)):
            self.assertIsNone(refusal(seen, yard, [], [], 4999))
            self.assertEqual(too_many(seen, yard, [], [], 5000), 5000)
            self.assertIsNone(refusal(seen, yard, [], [], 5000, most=5001))
        for yard in ((None,) * 2, (0, 0)):
            self.assertIsNone(refusal(seen, yard, [], [], 98))
            self.assertEqual(too_many(seen, yard, [], [], 99), 5000)

    def test_far_more_are_refused_at_once(self):
        for yard in ((None,) * 9, (0,) * 9, (BIG,)):
            self.assertEqual(too_many(seen, yard, [], [], BIG), 5000)
            self.assertEqual(too_many(seen, yard, [((), ())], [True], BIG, most=BIG), BIG)

    def test_rooms_are_what_is_gone_through(self):
        self.assertEqual(seen((0, 2), [], [], BIG, most=BIG ** 3), ([(0, 0)], [(0, 2)]))

    def test_no_number_of_most(self):
        for most in wrong_numbers() + [0]:
            self.assertIs(refusal(seen, (None,), [], [], 0, most=most), NoNumber)

    def test_by_keyword_alone(self):
        with self.assertRaises(TypeError):
            seen((None,), [], [], 0, 5000)


class RefusalTest(unittest.TestCase):
    def test_no_yard_no_standing_no_day(self):
        for thing in wrong_things():
            self.assertIs(refusal(can_be, thing, (0, 0), TWO, [None, None]), NoYard)
            self.assertIs(refusal(can_be, (1, 1), thing, TWO, [None, None]), NoStanding)
            self.assertIs(refusal(can_be, (1, 1), (0, 0), thing, [None]), NoDay)
            self.assertIs(refusal(seen, thing, TWO, [None, None], 1), NoYard)
            self.assertIs(refusal(seen, (1, 1), thing, [None], 1), NoDay)

    def test_no_sight(self):
        for sight in wrong_sights():
            with self.subTest(sight=sight):
                self.assertIs(refusal(can_be, (1, 1), (0, 0), TWO, sight), NoSight)
                self.assertIs(refusal(seen, (1, 1), TWO, sight, 1), NoSight)
        for sight in product((True, False, None), repeat=2):
            self.assertIsNone(refusal(can_be, (1, 1), (0, 0), TWO, list(sight)))
            self.assertIsNone(refusal(seen, (1, 1), TWO, list(sight), 1))

    def test_a_mark_for_each_ask(self):
        for many in range(5):
            day = [((0,), ())] * many
            told = [refusal(can_be, (1,), (0,), day, [None] * marks) for marks in range(7)]
            self.assertEqual(told, [NoSight if marks != many else None for marks in range(7)])
            self.assertEqual([refusal(seen, (1,), day, [None] * marks, 1) for marks in range(7)], told)

    def test_no_number_of_things(self):
        for things in wrong_numbers():
            self.assertIs(refusal(seen, (1, 1), TWO, [None, None], things), NoNumber)

    def test_which_goes_first(self):
        self.assertIs(refusal(can_be, [1], (2,), (), None), NoYard)
        self.assertIs(refusal(can_be, (1,), (2,), (), None), NoStanding)
        self.assertIs(refusal(can_be, (1,), (2,), [], [None]), NoStanding)
        self.assertIs(refusal(can_be, (1,), (1,), (), None), NoDay)
        for error, given, most in (
            (NoYard, ([1], (), None, -1), 0), (NoYard, ((-1,), [], [], 0), 5000), (NoDay, ((1,), (), None, -1), 0),
            (NoDay, ((1,), (), [], BIG), 1), (NoSight, ((1,), [], [None], -1), 0), (NoSight, ((1,), [], (), BIG), 1),
            (NoSight, ((1,), [], None, 0), 0), (NoNumber, ((1,), [], [], -1), 1), (NoNumber, ((1,), [], [], True), 0),
            (NoNumber, ((1,), [], [], BIG), 0), (NoNumber, ((1,), [], [], BIG), True), (TooMany, ((1,), [], [], 1), 1),
        ):
            with self.subTest(given=given):
                self.assertIs(refusal(seen, *given, most=most), error)


if __name__ == "__main__":
    unittest.main()
