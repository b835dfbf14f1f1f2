"""Points 2, 3, 8, 14 and 15: which standings serve told asks, and who lacks what."""

import unittest
from itertools import product
from random import Random

from onemore.errors import NoAsk, NoDay, NoNumber, NoOpen, NoStanding, NoYard, TooMany
from onemore.needs import lacks, least_for, one_fewer
from onemore.yards import served
from tests.samples import BIG, Odd, drawn_case, drawn_small_case, least_of, nowhere_more, plus, refusal, risings
from tests.samples import too_many, wrong_numbers, wrong_things

# Of two asks, so that 0 and 1 are numbers of asks and 2 is none.
TWO = [((0,), (1,)), ((1, 0), ())]


def wrong_somes():
    """Things that are no list of numbers of the two asks, rising, unlike."""
    rows = [None, True, 0, 1, "", "01", b"", {}, {0: 1}, (), (0,), (0, 1), {0}, range(2), iter([0]), Odd()]
    rows += [[0, 0], [1, 0], [1, 1], [0, 1, 1], [0, 1, 0], [2], [0, 2], [0, 1, 2], [BIG], [-1, 0], [[0]], [[]]]
    return rows + [row for number in wrong_numbers() for row in ([number], [0, number], [number, 1])]


def how_many_want(yard, day):
    """For each place how many asks of the day want it."""
    return [sum(place in wants for wants, _ in day) for place in range(len(yard))]


def without(yard, standing, day, some):
    """Those of some that go without."""
    asked = served(yard, standing, day)
    return [number for number in some if number not in asked]


def drawn_some(seed, day):
    """Some of the numbers of the asks of the day, rising, the same for each seed."""
    draw = Random(seed)
    return sorted(draw.sample(range(len(day)), draw.randint(0, len(day))))


class LeastForTest(unittest.TestCase):
    def test_no_asks_in_some(self):
        self.assertEqual(least_for((None,), [], []), [(0,)])
        self.assertEqual(least_for((None,) * 2, TWO, []), [(0, 0)])
        self.assertEqual(least_for((None,) * 9, [((), ())], []), [(0,) * 9])

    def test_one_ask(self):
        self.assertEqual(least_for((None,), [((0,), ())], [0]), [(1,)])
        self.assertEqual(least_for((None,) * 2, [((1,), (0,))], [0]), [(0, 1)])
        self.assertEqual(least_for((None,) * 3, [((2, 0), (0,))], [0]), [(0, 0, 1), (1, 0, 0)])
        told = least_for((None,) * 9, [(tuple(range(9)), ())], [0])
        self.assertEqual(told, [plus((0,) * 9, at) for at in range(8, -1, -1)])

    def test_an_ask_of_no_wants_is_never_served(self):
        self.assertEqual(least_for((None,), [((), (0,))], [0]), [])
        self.assertEqual(least_for((None,) * 2, TWO + [((), ())], [0, 2]), [])
        self.assertEqual(least_for((None,) * 2, [((), ())] + TWO, [1]), [(1, 0)])

    def test_asks_in_turn(self):
        self.assertEqual(least_for((None,) * 2, TWO, [0]), [(1, 0)])
        self.assertEqual(least_for((None,) * 2, TWO, [1]), [(0, 1), (1, 0)])
        self.assertEqual(least_for((None,) * 2, TWO, [0, 1]), [(1, 0)])
        self.assertEqual(least_for((None,) * 2, [((0,), ()), ((1, 0), ())], [0, 1]), [(1, 1), (2, 0)])
        self.assertEqual(least_for((None,), [((0,), ())] * 3, [0, 2]), [(3,)])
        self.assertEqual(least_for((None,), [((0,), (0,))] * 70, [0, 69]), [(1,)])
        self.assertEqual(least_for((None,), [((0,), ())] * 70, [69]), [(70,)])

    def test_other_asks_take_too(self):
        day = [((0,), ()), ((0, 1), ()), ((1,), ())]
        self.assertEqual(least_for((None,) * 2, day, [2]), [(0, 2), (2, 1)])
        self.assertEqual(least_for((None,) * 2, day, [0, 2]), [(1, 2), (2, 1)])

    def test_as_the_words_tell_it(self):
        several = 0
        for seed in range(250):
            yard, day = drawn_small_case(seed, [None])
            tops = how_many_want(yard, day)
            # One above what asks want: none of the least is to lie there.
            standings = list(product(*[range(top + 2) for top in tops]))
            for some in [drawn_some(seed, day), list(range(len(day)))]:
                serving = [row for row in standings if not without(yard, row, day, some)]
                told = least_for(yard, day, some)
                self.assertEqual(told, least_of(serving), (day, some))
                above = [row for row in standings if any(nowhere_more(least, row) for least in told)]
                self.assertEqual(above, serving)
                self.assertTrue(all(nowhere_more(least, tops) for least in told))
                several += len(told) > 1
        self.assertGreater(several, 50)

    def test_all_somes_of_a_day(self):
        day = [((0, 1), (2,)), ((1,), (0,)), ((2, 0), ()), ((0, 2), (1,))]
        standings = list(product(range(5), repeat=3))
        for some in risings(range(4)):
            serving = [row for row in standings if not without((None,) * 3, row, day, some)]
            self.assertEqual(least_for((None,) * 3, day, some), least_of(serving))

    def test_standings_of_very_many_serve_as_the_least_tell(self):
        for seed in range(100):
            yard, day = drawn_small_case(seed, [None])
            some = drawn_some(seed, day)
            least = least_for(yard, day, some)
            for standing in product((0, 1, BIG), repeat=len(yard)):
                serves = any(nowhere_more(one, standing) for one in least)
                self.assertIs(serves, not without(yard, standing, day, some))


class LacksTest(unittest.TestCase):
    def test_no_asks_in_some(self):
        self.assertIsNone(lacks((0,), (0,), [], []))
        self.assertIsNone(lacks((1, 1), (0, 0), TWO, []))
        self.assertIsNone(lacks((None,) * 9, (0,) * 9, [((0,), ())], []))

    def test_the_first_of_some(self):
        day = [((0,), ())] * 4
        self.assertEqual(lacks((5,), (1,), day, [0, 1, 2, 3]), 1)
        self.assertEqual(lacks((5,), (1,), day, [0, 2, 3]), 2)
        self.assertEqual(lacks((5,), (0,), day, [0, 3]), 0)
        self.assertEqual(lacks((5,), (3,), day, [0, 3]), 3)
        self.assertIsNone(lacks((5,), (3,), day, [0, 1, 2]))
        self.assertIsNone(lacks((5,), (4,), day, [0, 1, 2, 3]))

    def test_who_is_not_of_some_may_lack_and_takes(self):
        self.assertIsNone(lacks((5, 5), (0, 1), [((0,), ()), ((1,), ())], [1]))
        self.assertEqual(lacks((5, 5), (1, 0), [((0,), ()), ((0,), ())], [1]), 1)
        self.assertIsNone(lacks((5, 5), (1, 0), [((0,), (1,)), ((1,), ())], [1]))

    def test_rooms_of_nought_and_asks_of_no_wants(self):
        self.assertEqual(lacks((0,), (0,), [((0,), (0,))], [0]), 0)
        self.assertEqual(lacks((5,), (5,), [((), (0,))], [0]), 0)
        self.assertEqual(lacks((0, 1), (0, 1), [((1,), (0,)), ((0, 1), ())], [0, 1]), 1)
        self.assertIsNone(lacks((None,) * 9, (0,) * 8 + (BIG,), [((8,), (8,))] * 70, list(range(70))))

    def test_by_who_is_served(self):
        for seed in range(400):
            yard, standing, day = drawn_case(seed)
            for some in [drawn_some(seed, day), list(range(len(day)))]:
                self.assertEqual(lacks(yard, standing, day, some), (without(yard, standing, day, some) + [None])[0])


class OneFewerTest(unittest.TestCase):
    def test_for_each_place_where_a_thing_lies(self):
        self.assertEqual(one_fewer((5, 5), (0, 0), TWO, [0, 1]), [])
        self.assertEqual(one_fewer((5, 5, 5), (2, 0, 1), [], []), [(0, None), (2, None)])
        self.assertEqual(one_fewer((None,) * 9, (BIG,) * 9, TWO, [0, 1]), [(place, None) for place in range(9)])
        self.assertEqual(one_fewer((0, 1), (0, 1), [((1,), ())], [0]), [(1, 0)])

    def test_the_first_of_some_that_goes_without(self):
        day = [((0,), ()), ((1, 0), ()), ((1,), ())]
        self.assertEqual(one_fewer((5, 5), (1, 2), day, [0, 1, 2]), [(0, 0), (1, 2)])
        self.assertEqual(one_fewer((5, 5), (1, 2), day, [1, 2]), [(0, None), (1, 2)])
        self.assertEqual(one_fewer((5, 5), (1, 2), day, [0, 1]), [(0, 0), (1, None)])
        self.assertEqual(one_fewer((5, 5), (1, 1), day, [0, 1]), [(0, 0), (1, 1)])
        self.assertEqual(one_fewer((5, 5), (1, 2), day, []), [(0, None), (1, None)])

    def test_where_some_go_without_already(self):
        self.assertEqual(one_fewer((5, 5), (1, 1), [((), ()), ((0,), ())], [0, 1]), [(0, 0), (1, 0)])
        self.assertEqual(one_fewer((5, 5), (1, 0), [((0,), ())] * 2, [1]), [(0, 1)])

    def test_by_who_is_served(self):
        for seed in range(300):
            yard, standing, day = drawn_case(seed)
            some = drawn_some(seed, day)
            told = [
                (place, (without(yard, plus(standing, place, -1), day, some) + [None])[0])
                for place, many in enumerate(standing) if many
            ]
            self.assertEqual(one_fewer(yard, standing, day, some), told)

    def test_of_a_least_standing_none_is_none(self):
        for seed in range(150):
            yard, day = drawn_small_case(seed, [None])
            some = list(range(len(day)))
            for standing in least_for(yard, day, some):
                self.assertIsNone(lacks(yard, standing, day, some))
                self.assertNotIn(None, [ask for _, ask in one_fewer(yard, standing, day, some)])


class MostTest(unittest.TestCase):
    # At each place from 0 to 1, from 0 to 2, from 0 to 3: 24 standings.
    DAY = [((0, 1, 2), ()), ((1, 2), (0,)), ((2,), (0,)), ((), (1,))]

    def test_just_so_many_and_one_fewer(self):
        told = least_for((None,) * 3, self.DAY, [0, 2])
        for most in (24, 25, 5000, BIG):
            self.assertEqual(least_for((None,) * 3, self.DAY, [0, 2], most=most), told)
        for most in (1, 2, 23):
            self.assertIs(refusal(least_for, (None,) * 3, self.DAY, [0, 2], most=most), TooMany)
            self.assertEqual(too_many(least_for, (None,) * 3, self.DAY, [0, 2], most=most), most)

    def test_all_asks_count_and_all_standings(self):
        # Neither who is asked for nor that nobody can be served makes them fewer.
        for some in ([], [0], [3], [0, 1, 2, 3]):
            self.assertIs(refusal(least_for, (None,) * 3, self.DAY, some, most=23), TooMany)
            self.assertIsNone(refusal(least_for, (None,) * 3, self.DAY, some, most=24))
        self.assertEqual(least_for((None,), [], [], most=1), [(0,)])
        self.assertEqual(least_for((None,) * 9, [((), (0,))], [0], most=1), [])

    def test_unless_told_five_thousand(self):
        # Asks that want the places as often as told: 2 * 2 * 2 * 5 * 5 * 5 * 5 and 2 * 3 * 4 * 5 * 6 * 7.
        for often, error in (((1, 1, 1, 4, 4, 4, 4), None), ((1, 2, 3, 4, 5, 6), TooMany)):
            wants = [tuple(place for place, many in enumerate(often) if many > at) for at in range(6)]
            yard, day = (None,) * len(often), [(row, ()) for row in wants]
            self.assertIs(refusal(least_for, yard, day, [0]), error)
        self.assertEqual(too_many(least_for, yard, day, [0]), 5000)
        self.assertEqual(len(least_for(yard, day, [0], most=5040)), 6)

    def test_far_more_are_refused_at_once(self):
        day = [(tuple(range(9)), ())] * 70
        self.assertEqual(too_many(least_for, (None,) * 9, day, [0]), 5000)
        self.assertEqual(too_many(least_for, (None,) * 9, day, [0], most=71 ** 9 - 1), 71 ** 9 - 1)

    def test_no_number(self):
        for most in wrong_numbers() + [0]:
            self.assertIs(refusal(least_for, (None,), [((0,), ())], [0], most=most), NoNumber)

    def test_by_keyword_alone(self):
        with self.assertRaises(TypeError):
            least_for((None,), [], [], 5000)


class RefusalTest(unittest.TestCase):
    def test_no_yard(self):
        for thing in wrong_things():
            self.assertIs(refusal(least_for, thing, TWO, [0]), NoYard)
            self.assertIs(refusal(lacks, thing, (0, 0), TWO, [0]), NoYard)
            self.assertIs(refusal(one_fewer, thing, (0, 0), TWO, [0]), NoYard)

    def test_no_standing(self):
        for thing in wrong_things() + [(2, 0), (0,)]:
            self.assertIs(refusal(lacks, (1, 1), thing, TWO, [0]), NoStanding)
            self.assertIs(refusal(one_fewer, (1, 1), thing, TWO, [0]), NoStanding)

    def test_no_day(self):
        for thing in wrong_things():
            self.assertIs(refusal(least_for, (None, None), thing, []), NoDay)
            self.assertIs(refusal(lacks, (1, 1), (0, 0), thing, []), NoDay)
            self.assertIs(refusal(one_fewer, (1, 1), (0, 0), thing, []), NoDay)

    def test_no_open(self):
        for yard in ((0,), (1,), (BIG,), (0, None), (None, 1), (None,) * 8 + (70,)):
            self.assertIs(refusal(least_for, yard, [], []), NoOpen)
            self.assertIsNone(refusal(lacks, yard, (0,) * len(yard), [], []))
            self.assertIsNone(refusal(one_fewer, yard, (0,) * len(yard), [], []))

    def test_no_ask(self):
        for some in wrong_somes():
            with self.subTest(some=some):
                self.assertIs(refusal(least_for, (None, None), TWO, some), NoAsk)
                self.assertIs(refusal(lacks, (1, 1), (0, 0), TWO, some), NoAsk)
                self.assertIs(refusal(one_fewer, (1, 1), (0, 0), TWO, some), NoAsk)
        self.assertIs(refusal(least_for, (None,), [], [0]), NoAsk)
        for some in ([], [0], [1], [0, 1]):
            self.assertIsNone(refusal(least_for, (None, None), TWO, some))

    def test_which_goes_first(self):
        for error, given, most in (
            (NoYard, ([1], (), (0,)), 0), (NoYard, ((-1,), [], []), 5000), (NoDay, ((1,), (), ()), 0),
            (NoDay, ((1,), None, []), 5000), (NoOpen, ((1,), [], [0]), 5000), (NoOpen, ((1,), [], ()), 0),
            (NoOpen, ((1,), [((0,), ())], []), 1), (NoAsk, ((None,), [((0,), ())], [1]), 0),
            (NoAsk, ((None,), [((0,), ())], (0,)), 1), (NoNumber, ((None,), [((0,), ())], [0]), False),
            (NoNumber, ((None,), [((0,), ())], [0]), -5), (TooMany, ((None,), [((0,), ())], [0]), 1),
        ):
            with self.subTest(given=given):
                self.assertIs(refusal(least_for, *given, most=most), error)
        for function in (lacks, one_fewer):
            self.assertIs(refusal(function, [1], (0,), [], [0]), NoYard)
            self.assertIs(refusal(function, (1,), (2,), (), [0]), NoStanding)
            self.assertIs(refusal(function, (1,), (1,), (), [0]), NoDay)
            self.assertIs(refusal(function, (1,), (2,), [], [0]), NoStanding)


if __name__ == "__main__":
    unittest.main()
