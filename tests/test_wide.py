"""Points 2, 3 and 22 to 24: wide asks, whom one thing more harms, and which of them keep the promise."""

import unittest
from itertools import permutations, product

from onemore.errors import NoNumber, NoPlace, NoStanding, NoWide
from onemore.wide import keeps, wide_go, wide_harm
from onemore.yards import go
from tests.samples import BIG, Odd, drawn_open_case, drawn_wide_case, nested, plus, refusal, wrong_numbers
from tests.samples import wrong_things

# It takes at 0 and leaves at 1, or takes at 1 and leaves at 2: with one more at 0 nothing comes to 2.
WIDE = [(0, 1), (1, 2)]
STAY = [(2, 2)]


def all_wide_asks(places):
    """All wide asks of so many places."""
    for many in range(places + 1):
        for row in permutations(range(places), many):
            for others in product(range(places), repeat=many):
                yield list(zip(row, others))


def wrong_asks():
    """Things that are no wide ask of two places."""
    steps = [None, True, 0, 1, "01", b"01", (), (0,), (0, 1, 0), [0, 1], {0: 1}, {0, 1}, Odd(), iter((0, 1)), ((0, 1),)]
    steps += [(number, 1) for number in wrong_numbers() + [2, 9, BIG]]
    steps += [(0, number) for number in wrong_numbers() + [2, 9, BIG]]
    rows = [[step] for step in steps] + [[(1, 0), step] for step in steps] + [[step, (1, 0)] for step in steps]
    rows += [[(0, 1), (0, 1)], [(0, 0), (0, 1)], [(1, 0), (0, 0), (1, 1)], ((0, 1),), ((0, 1), (1, 0)), {(0, 1): 1}]
    rows += [iter([(0, 1)]), {0: 1}, {(0, 1)}, (), "", b"", None, True, False, 0, 1.0, Odd(), object, nested(38, list)]
    return rows


def wrong_standings():
    """Things that are no tuple of one to nine whole numbers from 0 on."""
    rows = wrong_things() + [(None,), (None, 1), [1], [1, 1], {0: 1}, (0,) * 10, (0,) * 11, "1 1", ((0, 1),)]
    return rows + [row for number in wrong_numbers() for row in ((number,), (0, number), (number, 0, 0))]


def harm_of_two(standing, day, place):
    """By both worlds: the first ask that is served, and is not with one thing more at the place."""
    lesser, _ = wide_go(standing, day)
    greater, _ = wide_go(plus(standing, place), day)
    harmed = [number for number in range(len(day)) if lesser[number] is not None and greater[number] is None]
    return harmed[0] if harmed else None


class WideGoTest(unittest.TestCase):
    def test_no_asks_no_places_no_things(self):
        self.assertEqual(wide_go((5,), []), ([], (5,)))
        self.assertEqual(wide_go((BIG,) * 9, [[], []]), ([None, None], (BIG,) * 9))
        self.assertEqual(wide_go((0, 0), [[(0, 1), (1, 0)]]), ([None], (0, 0)))

    def test_the_first_place_where_a_thing_lies_and_the_other_beside_it(self):
        self.assertEqual(wide_go((1, 1, 0), [WIDE]), ([(0, 1)], (0, 2, 0)))
        self.assertEqual(wide_go((0, 1, 0), [WIDE]), ([(1, 2)], (0, 0, 1)))
        self.assertEqual(wide_go((0, 0, 1), [WIDE]), ([None], (0, 0, 1)))
        self.assertEqual(wide_go((1, 1, 0), [WIDE[::-1]]), ([(1, 2)], (1, 0, 1)))

    def test_asks_one_behind_another(self):
        self.assertEqual(wide_go((1, 0, 0), [WIDE, WIDE, STAY]), ([(0, 1), (1, 2), (2, 2)], (0, 0, 1)))
        self.assertEqual(wide_go((1, 0, 0), [STAY, WIDE, WIDE]), ([None, (0, 1), (1, 2)], (0, 0, 1)))
        self.assertEqual(wide_go((0, 1, 0), [[(1, 1)]] * 70), ([(1, 1)] * 70, (0, 1, 0)))

    def test_nine_places_and_many_things(self):
        day = [[(place, (place + 1) % 9)] for place in range(9)]
        self.assertEqual(wide_go((1,) + (0,) * 8, day), ([(at, (at + 1) % 9) for at in range(9)], (1,) + (0,) * 8))
        self.assertEqual(wide_go((BIG,) * 9, day[:1]), ([(0, 1)], (BIG - 1, BIG + 1) + (BIG,) * 7))

    def test_as_the_words_tell_it(self):
        for seed in range(200):
            standing, day = drawn_wide_case(seed)
            log, end = wide_go(standing, day)
            lying = standing
            self.assertEqual(len(log), len(day))
            for ask, row in zip(day, log):
                rows = [step for step in ask if lying[step[0]]]
                self.assertEqual(row, rows[0] if rows else None)
                if rows:
                    lying = plus(plus(lying, row[0], -1), row[1])
            self.assertEqual(end, lying)

    def test_an_ask_with_all_others_alike_is_as_an_ask_of_a_yard(self):
        for seed in range(150):
            yard, standing, day = drawn_open_case(seed)
            day = [(wants, leaves or (0,)) for wants, leaves in day]
            wide = [[(place, leaves[0]) for place in wants] for wants, leaves in day]
            self.assertEqual(wide_go(standing, wide), go(yard, standing, day))
            for place in range(len(yard)):
                self.assertIsNone(wide_harm(standing, wide, place))


class WideHarmTest(unittest.TestCase):
    def test_nobody_harmed(self):
        self.assertIsNone(wide_harm((0,), [], 0))
        self.assertIsNone(wide_harm((0, 0), [[], [(0, 1)]], 0))
        self.assertIsNone(wide_harm((0, 1, 0), [WIDE], 0))
        self.assertIsNone(wide_harm((0, 1, 0), [WIDE, STAY], 1))
        self.assertIsNone(wide_harm((0, 1, 0), [WIDE, STAY], 2))
        self.assertIsNone(wide_harm((BIG,) * 9, [[(place, 8) for place in range(9)]] * 70, 8))

    def test_the_first_ask_that_goes_without(self):
        self.assertEqual(wide_harm((0, 1, 0), [WIDE, STAY], 0), 1)
        self.assertEqual(wide_harm((0, 1, 0), [WIDE, [], STAY, STAY], 0), 2)
        self.assertEqual(wide_harm((0, 1, 0), [[(0, 0)], WIDE, STAY], 0), 2)

    def test_who_is_served_anew_is_not_harmed(self):
        self.assertIsNone(wide_harm((0, 0, 0), [WIDE, [(1, 1)]], 0))
        self.assertEqual(wide_harm((0, 1, 0), [[(0, 0)], WIDE, [(1, 1)], STAY], 0), 3)

    def test_by_both_worlds(self):
        told = []
        for seed in range(200):
            standing, day = drawn_wide_case(seed)
            for place in range(len(standing)):
                told.append(wide_harm(standing, day, place))
                self.assertEqual(told[-1], harm_of_two(standing, day, place))
        self.assertGreater(len([one for one in told if one is not None]), 50)
        self.assertGreater(told.count(None), 100)


class KeepsTest(unittest.TestCase):
    def test_no_places_one_place_and_all_others_alike(self):
        for many in range(1, 10):
            self.assertIsNone(keeps([], many))
            self.assertIsNone(keeps([(many - 1, 0)], many))
            self.assertIsNone(keeps([(place, many - 1) for place in range(many)], many))

    def test_what_is_taken_later_is_left_where_it_lay(self):
        self.assertIsNone(keeps([(0, 1), (1, 1)], 2))
        self.assertIsNone(keeps([(0, 2), (1, 1)], 3))
        self.assertIsNone(keeps([(place, place) for place in range(9)], 9))
        self.assertIsNone(keeps([(3, 0), (2, 0), (1, 1), (0, 0)], 4))

    def test_the_earlier_ones_own_place_does_not_help(self):
        self.assertEqual(keeps([(0, 0), (1, 2)], 3), ((0, 1, 0), 0, [[(0, 0), (1, 2)], [(2, 2)]]))
        self.assertEqual(keeps([(0, 1), (1, 0)], 2), ((0, 1), 0, [[(0, 1), (1, 0)], [(0, 0)]]))

    def test_the_first_two_that_break_it(self):
        self.assertEqual(keeps(WIDE, 3), ((0, 1, 0), 0, [WIDE, STAY]))
        self.assertEqual(keeps(WIDE, 9), ((0, 1) + (0,) * 7, 0, [WIDE, STAY]))
        ask = [(3, 1), (2, 1), (0, 0), (1, 2)]
        self.assertEqual(keeps(ask, 4), ((0, 1, 0, 0), 3, [ask, [(2, 2)]]))
        # The earlier one first: 0 and 3 ahead of 1 and 2.
        ask = [(0, 1), (1, 1), (2, 2), (3, 0)]
        self.assertEqual(keeps(ask, 4), ((0, 0, 0, 1), 0, [ask, [(0, 0)]]))
        ask = [(4, 1), (1, 1), (2, 2), (3, 0), (0, 3)]
        self.assertEqual(keeps(ask, 5), ((0, 0, 0, 1, 0), 4, [ask, [(0, 0)]]))
        ask = [(0, 3), (1, 0), (2, 1)]
        self.assertEqual(keeps(ask, 4), ((0, 1, 0, 0), 0, [ask, [(0, 0)]]))

    def test_the_told_day_is_the_askers_own(self):
        ask = list(WIDE)
        _, _, day = keeps(ask, 3)
        self.assertEqual(day[0], ask)
        self.assertIsNot(day[0], ask)
        day[0].clear()
        self.assertEqual(ask, WIDE)
        ask.clear()
        self.assertEqual(day, [[], STAY])

    def test_what_is_told_harms(self):
        broken = 0
        for many in (1, 2, 3):
            for ask in all_wide_asks(many):
                told = keeps(ask, many)
                if told is not None:
                    standing, place, day = told
                    self.assertEqual(wide_harm(standing, day, place), 1, ask)
                    self.assertEqual((sum(standing), standing[place]), (1, 0))
                    self.assertEqual((len(standing), len(day), day[0]), (many, 2, ask))
                    broken += 1
        self.assertGreater(broken, 100)

    def test_who_keeps_it_harms_nobody(self):
        for many in (1, 2, 3):
            seconds = [[(place, place)] for place in range(many)]
            for ask in all_wide_asks(many):
                harms = [
                    wide_harm(standing, [ask, second], place)
                    for standing in product(range(3), repeat=many) for place in range(many) for second in seconds
                ]
                self.assertEqual(keeps(ask, many) is None, set(harms) == {None}, ask)

    def test_days_of_asks_that_keep_it(self):
        several = 0
        for seed in range(600):
            standing, day = drawn_wide_case(seed)
            day = [ask[:1 + at % 3] for at, ask in enumerate(day)]
            day = [ask for ask in day if keeps(ask, len(standing)) is None]
            for place in range(len(standing)):
                self.assertIsNone(wide_harm(standing, day, place))
            several += len(day) > 5
        self.assertGreater(several, 100)


class RefusalTest(unittest.TestCase):
    def test_no_standing(self):
        for standing in wrong_standings():
            with self.subTest(standing=standing):
                self.assertIs(refusal(wide_go, standing, []), NoStanding)
                self.assertIs(refusal(wide_harm, standing, [], 0), NoStanding)
        for many in range(1, 10):
            self.assertIsNone(refusal(wide_go, (BIG,) * many, []))
            self.assertIsNone(refusal(wide_harm, (0,) * many, [], many - 1))

    def test_no_wide(self):
        for ask in wrong_asks():
            with self.subTest(ask=ask):
                self.assertIs(refusal(keeps, ask, 2), NoWide)
                for day in ([ask], [[(0, 1)], ask], [ask, []]):
                    self.assertIs(refusal(wide_go, (1, 1), day), NoWide)
                    self.assertIs(refusal(wide_harm, (1, 1), day, 0), NoWide)

    def test_no_day_of_wide_asks(self):
        for day in (None, True, 0, "", (), ([],), ([(0, 1)],), {}, {0: []}, iter([]), Odd(), [(0, 1)], [((0,), (1,))]):
            self.assertIs(refusal(wide_go, (1, 1), day), NoWide)
            self.assertIs(refusal(wide_harm, (1, 1), day, 0), NoWide)

    def test_of_as_many_places(self):
        for many in range(1, 10):
            self.assertIsNone(refusal(wide_go, (0,) * many, [[(many - 1, many - 1)]]))
            self.assertIsNone(refusal(keeps, [(many - 1, many - 1)], many))
            for step in ((many, 0), (0, many)):
                self.assertIs(refusal(wide_go, (0,) * many, [[step]]), NoWide)
                self.assertIs(refusal(keeps, [step], many), NoWide)

    def test_no_place(self):
        for place in wrong_numbers() + [2, 9, BIG]:
            self.assertIs(refusal(wide_harm, (1, 1), [], place), NoPlace)
            self.assertIs(refusal(wide_harm, (1, 1), [[(0, 1)]], place), NoPlace)

    def test_no_number(self):
        for many in wrong_numbers() + [0, 10, 11, BIG]:
            self.assertIs(refusal(keeps, [], many), NoNumber)
            self.assertIs(refusal(keeps, [(0, 0)], many), NoNumber)

    def test_which_goes_first(self):
        self.assertIs(refusal(wide_go, [1], ()), NoStanding)
        self.assertIs(refusal(wide_go, (), [[(0, 0)]]), NoStanding)
        self.assertIs(refusal(wide_harm, [1], (), -1), NoStanding)
        self.assertIs(refusal(wide_harm, [1], [], 1), NoStanding)
        self.assertIs(refusal(wide_harm, (1,), (), 1), NoWide)
        self.assertIs(refusal(wide_harm, (1,), [[(0, 1)]], True), NoWide)
        self.assertIs(refusal(keeps, (), 0), NoNumber)
        self.assertIs(refusal(keeps, [(0, 0), (0, 0)], 10), NoNumber)
        self.assertIs(refusal(keeps, None, True), NoNumber)

    def test_no_asks_of_a_yard(self):
        for seed in range(50):
            _, standing, day = drawn_open_case(seed)
            self.assertIs(refusal(wide_go, standing, day), NoWide if day else None)


if __name__ == "__main__":
    unittest.main()
