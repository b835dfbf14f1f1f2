"""Points 3, 8, 12 and 13: how far two standings are apart, and how they come together."""

import unittest
from itertools import product
from random import Random

from onemore.errors import NoAsk, NoDay, NoStanding, NoYard
from onemore.pairs import far_apart, left_out, meeting, met, together
from onemore.yards import go
from tests.samples import BIG, all_asks, drawn_case, moments, nowhere_more, refusal, small_standings
from tests.samples import small_yards, wrong_numbers, wrong_things


def drawn_standing(yard, seed, top=4):
    """A standing of the yard, the same for each seed."""
    draw = Random(seed)
    return tuple(draw.randint(0, top if room is None else min(room, top)) for room in yard)


def drawn_pair(seed):
    """A yard, two standings of it and a day, the same for each seed."""
    yard, standing, day = drawn_case(seed)
    if seed % 3:
        standing = drawn_standing(yard, seed)
    return yard, standing, drawn_standing(yard, seed + 1000), day


class FarApartTest(unittest.TestCase):
    def test_for_each_place_without_sign_together(self):
        self.assertEqual(far_apart((5, 5), (0, 0), (0, 0)), 0)
        self.assertEqual(far_apart((5, 5), (3, 0), (1, 0)), 2)
        self.assertEqual(far_apart((5, 5), (1, 0), (3, 0)), 2)
        self.assertEqual(far_apart((5, 5), (4, 1), (1, 3)), 5)
        self.assertEqual(far_apart((5, 5, None), (1, 0, 7), (0, 1, 7)), 2)

    def test_yards_of_one_and_of_nine_places_and_rooms_of_nought(self):
        self.assertEqual(far_apart((0,), (0,), (0,)), 0)
        self.assertEqual(far_apart((None,), (BIG,), (0,)), BIG)
        self.assertEqual(far_apart((0, 1, 0), (0, 1, 0), (0, 0, 0)), 1)
        self.assertEqual(far_apart((None,) * 9, (BIG, 0) * 4 + (BIG,), (0, BIG) * 4 + (0,)), 9 * BIG)
        self.assertEqual(far_apart((9,) * 9, tuple(range(9)), tuple(range(8, -1, -1))), 40)

    def test_either_way_round(self):
        for seed in range(100):
            yard, one, other, _ = drawn_pair(seed)
            self.assertEqual(far_apart(yard, one, other), far_apart(yard, other, one))
            self.assertEqual(far_apart(yard, one, one), 0)


class TogetherTest(unittest.TestCase):
    def test_no_asks(self):
        self.assertEqual(together((5, 5), (4, 1), (1, 3), []), [5])
        self.assertEqual(together((None,) * 9, (1,) * 9, (1,) * 9, []), [0])
        self.assertEqual(together((0,), (0,), (0,), []), [0])

    def test_behind_each_ask(self):
        day = [((0,), (1,)), ((0, 1), ()), ((2,), (0,)), ((), (0,)), ((1,), (1,))]
        self.assertEqual(together((None,) * 3, (1, 0, 0), (0, 1, 0), day), [2, 0, 0, 0, 0, 0])
        self.assertEqual(together((None,) * 3, (2, 0, 0), (0, 0, 1), day), [3, 3, 2, 2, 2, 2])
        self.assertEqual(together((0, 0), (0, 0), (0, 0), [((0, 1), (1, 0))] * 3), [0] * 4)
        self.assertEqual(together((1, 1), (1, 1), (0, 0), [((0,), ()), ((1,), ())]), [2, 1, 0])

    def test_where_the_room_brings_them_together(self):
        self.assertEqual(together((1, 1), (1, 1), (1, 0), [((0,), (1,))]), [1, 0])
        self.assertEqual(together((1, 1, 1), (1, 1, 0), (1, 0, 0), [((0,), (1, 2))]), [1, 1])

    def test_days_of_asks_by_themselves(self):
        for seed in range(300):
            yard, one, other, day = drawn_pair(seed)
            pairs = zip(moments(yard, one, day), moments(yard, other, day))
            apart = together(yard, one, other, day)
            self.assertEqual(apart, [far_apart(yard, less, more) for less, more in pairs])
            self.assertEqual(apart, sorted(apart, reverse=True))

    def test_small_yards_never_rise(self):
        for yard in small_yards():
            for one, other in product(small_standings(yard), repeat=2):
                for ask in all_asks(len(yard)):
                    ahead, behind = together(yard, one, other, [ask])
                    self.assertEqual(ahead, far_apart(yard, one, other))
                    self.assertLessEqual(behind, ahead)


class MetTest(unittest.TestCase):
    def test_the_same_ahead_of_the_day(self):
        self.assertEqual(met((5, 5), (1, 2), (1, 2), []), 0)
        self.assertEqual(met((0,), (0,), (0,), [((0,), (0,))]), 0)
        self.assertEqual(met((None,) * 9, (BIG,) * 9, (BIG,) * 9, [((0,), ())]), 0)

    def test_behind_which_ask(self):
        day = [((1,), ()), ((), ()), ((0,), ()), ((0,), ())]
        self.assertEqual(met((5, 5), (0, 0), (0, 1), day), 1)
        self.assertEqual(met((5, 5), (0, 0), (1, 1), day), 3)
        self.assertEqual(met((5, 5), (0, 1), (2, 1), day), 4)

    def test_never(self):
        self.assertIsNone(met((5,), (0,), (1,), []))
        self.assertIsNone(met((5, 5), (0, 0), (3, 0), [((0,), ())] * 2))
        self.assertIsNone(met((None,) * 2, (0, 1), (1, 0), [((), (0,))] * 70))

    def test_the_first_where_they_are_the_same(self):
        seen = set()
        for seed in range(300):
            yard, one, other, day = drawn_pair(seed)
            same = [less == more for less, more in zip(moments(yard, one, day), moments(yard, other, day))]
            number = met(yard, one, other, day)
            self.assertEqual(number, same.index(True) if True in same else None)
            if number is not None:
                self.assertTrue(all(same[number:]))
            seen.add(number)
        self.assertTrue({None, 0, 1, 2, 3} <= seen)


class LeftOutTest(unittest.TestCase):
    def test_nought_up_to_the_ask(self):
        day = [((0,), (1,)), ((0,), (1,)), ((1,), (0,))]
        self.assertEqual(left_out((None,) * 2, (5, 5), day, 0), [0, 2, 2, 2])
        self.assertEqual(left_out((None,) * 2, (5, 5), day, 1), [0, 0, 2, 2])
        self.assertEqual(left_out((None,) * 2, (5, 5), day, 2), [0, 0, 0, 2])

    def test_one_where_a_thing_is_carried_off(self):
        self.assertEqual(left_out((5,), (3,), [((0,), ())] * 2, 0), [0, 1, 1])
        self.assertEqual(left_out((5,), (1,), [((0,), ())] * 2, 0), [0, 1, 0])
        self.assertEqual(left_out((1, 0), (1, 0), [((0,), (1,))], 0), [0, 1])

    def test_nought_where_nothing_is_moved(self):
        self.assertEqual(left_out((5,), (0,), [((0,), ())], 0), [0, 0])
        self.assertEqual(left_out((5,), (1,), [((0,), (0,)), ((0,), ())], 0), [0, 0, 0])
        self.assertEqual(left_out((0,), (0,), [((0,), (0,)), ((), ())], 1), [0, 0, 0])

    def test_an_ask_that_stands_there_twice_is_left_out_once(self):
        self.assertEqual(left_out((None,), (2,), [((0,), ())] * 3, 1), [0, 0, 1, 0])
        self.assertEqual(left_out((None,), (5,), [((0,), ())] * 3, 1), [0, 0, 1, 1])

    def test_by_two_days(self):
        seen = set()
        for seed in range(120):
            yard, standing, day = drawn_case(seed)
            for number in range(0, len(day), 1 + len(day) // 8):
                # Behind each ask, the other world has gone through one fewer, once it is left out.
                without = moments(yard, standing, day[:number] + day[number + 1:])
                without.insert(number, without[number])
                pairs = list(zip(moments(yard, standing, day), without))
                apart = left_out(yard, standing, day, number)
                self.assertEqual(apart, [far_apart(yard, one, other) for one, other in pairs])
                self.assertEqual(apart[:number + 1], [0] * (number + 1))
                self.assertLessEqual(apart[number + 1], 2)
                self.assertEqual(apart[number + 1:], sorted(apart[number + 1:], reverse=True))
                seen.add((apart[number + 1], apart[-1]))
        self.assertEqual(seen, {(0, 0), (1, 0), (1, 1), (2, 0), (2, 1), (2, 2)})


class MeetingTest(unittest.TestCase):
    def test_at_each_place_the_lesser_and_the_greater(self):
        self.assertEqual(meeting((5, 5), (1, 4), (3, 2)), ((1, 2), (3, 4)))
        self.assertEqual(meeting((5, 5), (3, 2), (1, 4)), ((1, 2), (3, 4)))
        self.assertEqual(meeting((5, 5), (1, 2), (1, 2)), ((1, 2), (1, 2)))
        self.assertEqual(meeting((5, 5), (1, 2), (1, 3)), ((1, 2), (1, 3)))

    def test_yards_of_one_and_of_nine_places_and_rooms_of_nought(self):
        self.assertEqual(meeting((0,), (0,), (0,)), ((0,), (0,)))
        self.assertEqual(meeting((None,), (0,), (BIG,)), ((0,), (BIG,)))
        down, up = tuple(range(8, -1, -1)), tuple(range(9))
        told = ((0, 1, 2, 3, 4, 3, 2, 1, 0), (8, 7, 6, 5, 4, 5, 6, 7, 8))
        self.assertEqual(meeting((None,) * 9, down, up), told)

    def test_what_is_told_are_standings(self):
        for seed in range(100):
            yard, one, other, day = drawn_pair(seed)
            lesser, greater = meeting(yard, one, other)
            self.assertEqual(far_apart(yard, lesser, greater), far_apart(yard, one, other))
            self.assertIsNone(refusal(go, yard, lesser, day))
            self.assertIsNone(refusal(go, yard, greater, day))

    def test_the_ends_stay_in_order(self):
        apart = 0
        for seed in range(400):
            yard, one, other, day = drawn_pair(seed)
            lesser, greater = meeting(yard, one, other)
            for less, first, second, more in zip(*[moments(yard, row, day) for row in (lesser, one, other, greater)]):
                self.assertTrue(nowhere_more(less, first) and nowhere_more(less, second))
                self.assertTrue(nowhere_more(first, more) and nowhere_more(second, more))
                apart += less != more
        self.assertGreater(apart, 1000)

    def test_the_ends_of_small_yards_stay_in_order(self):
        for yard in small_yards():
            for one, other in product(small_standings(yard), repeat=2):
                if nowhere_more(one, other):
                    for ask in all_asks(len(yard)):
                        self.assertTrue(nowhere_more(go(yard, one, [ask])[1], go(yard, other, [ask])[1]))


class RefusalTest(unittest.TestCase):
    PAIRS = (far_apart, meeting)
    DAYS = (together, met)

    def assert_refused(self, error, functions, *given):
        """Each function refuses what is given, by that class alone."""
        for function in functions:
            with self.subTest(function=function, given=given):
                self.assertIs(refusal(function, *given), error)

    def test_no_yard(self):
        for thing in wrong_things():
            self.assert_refused(NoYard, self.PAIRS, thing, (0, 0), (0, 0))
            self.assert_refused(NoYard, self.DAYS, thing, (0, 0), (0, 0), [])
            self.assert_refused(NoYard, [left_out], thing, (0, 0), [((0,), ())], 0)

    def test_no_standing_of_the_one_and_of_the_other(self):
        for thing in wrong_things() + [(2, 0), (0, 2), (0,), (0, 0, 0), [0, 0]]:
            for pair in ((thing, (0, 0)), ((0, 0), thing), (thing, thing)):
                self.assert_refused(NoStanding, self.PAIRS, (1, 1), *pair)
                self.assert_refused(NoStanding, self.DAYS, (1, 1), *pair, [])
            self.assert_refused(NoStanding, [left_out], (1, 1), thing, [((0,), ())], 0)

    def test_no_day(self):
        for thing in wrong_things() + [[((0,), (2,))], (((0,), ()),)]:
            self.assert_refused(NoDay, self.DAYS, (1, 1), (0, 0), (1, 1), thing)
            self.assert_refused(NoDay, [left_out], (1, 1), (0, 0), thing, 0)

    def test_no_ask(self):
        for day in ([], [((0,), (1,))], [((0,), (1,))] * 70):
            for number in wrong_numbers() + [len(day), len(day) + 1, BIG]:
                self.assert_refused(NoAsk, [left_out], (1, 1), (0, 0), day, number)
            told = [refusal(left_out, (1, 1), (0, 0), day, number) for number in range(len(day))]
            self.assertEqual(told, [None] * len(day))

    def test_which_goes_first(self):
        self.assert_refused(NoYard, self.PAIRS, [1], (2,), (2,))
        self.assert_refused(NoYard, self.DAYS, (-1,), (-1,), (0,), ())
        self.assert_refused(NoStanding, self.DAYS, (1,), (2,), (1,), ())
        self.assert_refused(NoStanding, self.DAYS, (1,), (1,), (2,), ())
        self.assert_refused(NoYard, [left_out], (), (2,), [], 0)
        self.assert_refused(NoStanding, [left_out], (1,), (2,), (), 0)
        self.assert_refused(NoStanding, [left_out], (1,), (2,), [], 0)
        self.assert_refused(NoDay, [left_out], (1,), (1,), (), 0)
        self.assert_refused(NoDay, [left_out], (1,), (1,), None, True)


if __name__ == "__main__":
    unittest.main()
