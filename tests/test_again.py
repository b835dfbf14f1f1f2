"""Points 2, 3, 8, 20 and 21: the same day again and again, and the rounds that the standings go."""

import unittest
from itertools import product
from random import Random

from onemore.again import all_rings, many_days, ring, round_of
from onemore.errors import NoDay, NoNumber, NoStanding, NoYard, TooMany
from onemore.pairs import far_apart, together
from onemore.yards import go, served
from tests.samples import BIG, drawn_case, drawn_small_case, refusal, small_standings, small_yards, too_many
from tests.samples import wrong_numbers, wrong_things

# A thing at place 0 goes to 1, to 2, and then, by the first and the last ask, to 1 again.
TURN = [((2,), (0,)), ((1,), (2,)), ((0,), (1,))]
OPEN = (None, None, None)


def days_gone(yard, standing, day, days):
    """Day by day: the standing behind so many days, and how many asks were served in all."""
    many = 0
    for _ in range(days):
        many += len(served(yard, standing, day))
        standing = go(yard, standing, day)[1]
    return standing, many


def round_gone(yard, standing, day):
    """Day by day: the standings until one comes again, that one last."""
    told = [standing]
    while told[-1] not in told[:-1]:
        told.append(go(yard, told[-1], day)[1])
    return told


def of_things(yard, things):
    """All standings of just so many things."""
    ranges = [range((things if room is None else min(room, things)) + 1) for room in yard]
    return [row for row in product(*ranges) if sum(row) == things]


def turning(places):
    """Asks by which a thing goes from each of the places to the one behind it, by one place a day."""
    return [((one,), (other,)) for one, other in zip(places, places[1:] + places[:1])][::-1]


def drawn_turning(seed):
    """A yard and a day by which things turn on one way round or two, with an ask between or none."""
    draw = Random(seed)
    many = draw.randint(2, 6)
    places, half = draw.sample(range(many), many), draw.randint(0, many)
    day = turning(places[:half]) + turning(places[half:])
    if draw.random() < 0.3:
        day.insert(draw.randint(0, many), ((draw.randrange(many),), (draw.randrange(many),)))
    return tuple(draw.choice([[None], [1, 2], [1, None]][seed % 3]) for _ in range(many)), day


def drawn_cases():
    """Small yards, standings and days, those that turn, and big ones."""
    for seed in range(60):
        yard, day = drawn_turning(seed)
        for things in range(1, 4):
            for standing in of_things(yard, things)[seed % 3::5]:
                yield yard, standing, day
    for seed in range(120):
        yard, day = drawn_small_case(seed, [[None], [0, 1, 2], [1, 3, None]][seed % 3])
        for standing in small_standings(yard):
            yield yard, standing, day
    for seed in range(150):
        yard, standing, day = drawn_case(seed)
        yield yard, tuple(many if many < 10 else 10 for many in standing), day


class RoundOfTest(unittest.TestCase):
    def test_no_asks_no_wants_no_things(self):
        self.assertEqual(round_of((None,), (5,), []), (0, 1))
        self.assertEqual(round_of((0,) * 9, (0,) * 9, [((), (0,))]), (0, 1))
        self.assertEqual(round_of(OPEN, (0, 0, 0), TURN), (0, 1))
        self.assertEqual(round_of((None,) * 9, (BIG,) * 9, [((), ())] * 70), (0, 1))

    def test_ahead_of_the_round_and_around(self):
        self.assertEqual(round_of(OPEN, (1, 0, 0), TURN), (1, 2))
        self.assertEqual(round_of(OPEN, (0, 1, 0), TURN), (0, 2))
        self.assertEqual(round_of(OPEN, (0, 0, 1), TURN), (0, 2))
        self.assertEqual(round_of((1, 1), (1, 0), [((0, 1), (1, 0))]), (1, 1))
        self.assertEqual(round_of((1, 1), (0, 1), [((0, 1), (1, 0))]), (0, 1))

    def test_things_that_are_carried_off(self):
        for many in range(6):
            self.assertEqual(round_of((None,), (many,), [((0,), ())]), (many, 1))
            self.assertEqual(round_of((9,), (many,), [((0,), ())] * 2), ((many + 1) // 2, 1))

    def test_by_going_day_by_day(self):
        told = {}
        for yard, standing, day in drawn_cases():
            gone = round_gone(yard, standing, day)
            first = gone.index(gone[-1])
            one = round_of(yard, standing, day)
            self.assertEqual(one, (first, len(gone) - 1 - first), (yard, standing, day))
            told[one] = True
        self.assertGreater(max(first for first, _ in told), 5)
        self.assertGreater(max(length for _, length in told), 1)


class ManyDaysTest(unittest.TestCase):
    def test_no_days_at_all(self):
        self.assertEqual(many_days((None,), (5,), [((0,), ())], 0), ((5,), 0))
        self.assertEqual(many_days((0,), (0,), [], 0), ((0,), 0))
        self.assertEqual(many_days(OPEN, (1, 2, 3), TURN, 0, most=1), ((1, 2, 3), 0))

    def test_no_asks_no_things(self):
        for days in (0, 1, 2, BIG, 10 ** 300):
            self.assertEqual(many_days((None,), (5,), [], days), ((5,), 0))
            self.assertEqual(many_days((0,), (0,), [((0,), (0,))], days), ((0,), 0))
            self.assertEqual(many_days((None,), (5,), [((0,), (0,))] * 70, days), ((5,), 70 * days))

    def test_day_by_day(self):
        self.assertEqual(many_days(OPEN, (1, 0, 0), TURN, 1), ((0, 1, 0), 1))
        self.assertEqual(many_days(OPEN, (1, 0, 0), TURN, 2), ((0, 0, 1), 2))
        self.assertEqual(many_days(OPEN, (1, 0, 0), TURN, 3), ((0, 1, 0), 4))
        self.assertEqual(many_days(OPEN, (1, 0, 0), TURN, 4), ((0, 0, 1), 5))
        self.assertEqual(many_days((None,), (3,), [((0,), ())] * 2, 1), ((1,), 2))
        self.assertEqual(many_days((None,), (3,), [((0,), ())] * 2, 2), ((0,), 3))
        self.assertEqual(many_days((None,), (3,), [((0,), ())] * 2, BIG), ((0,), 3))

    def test_days_beyond_all_counting(self):
        # From behind the first day on, two days serve three asks.
        for days in (10 ** 15 - 1, 10 ** 15 + 1, 10 ** 300 + 1):
            self.assertEqual(many_days(OPEN, (1, 0, 0), TURN, days), ((0, 1, 0), 1 + (days - 1) // 2 * 3))
            told = many_days(OPEN, (1, 0, 0), TURN, days + 1)
            self.assertEqual(told, ((0, 0, 1), 2 + (days - 1) // 2 * 3))

    def test_the_round_is_not_gone_through_again(self):
        # Even where so many would be allowed.
        self.assertEqual(many_days(OPEN, (0, 1, 0), TURN, BIG - 1, most=BIG), ((0, 1, 0), (BIG - 1) // 2 * 3))

    def test_by_going_day_by_day(self):
        for number, (yard, standing, day) in enumerate(drawn_cases()):
            for days in (0, 1, 2, 3, 4, 5, 12 + number % 7):
                told = days_gone(yard, standing, day, days)
                self.assertEqual(many_days(yard, standing, day, days), told, (yard, standing, day, days))

    def test_days_behind_days(self):
        for number, (yard, standing, day) in enumerate(drawn_cases()):
            half, many = many_days(yard, standing, day, BIG + number)
            end, more = many_days(yard, half, day, BIG)
            self.assertEqual(many_days(yard, standing, day, 2 * BIG + number), (end, many + more))


class RingTest(unittest.TestCase):
    def test_one_standing_that_stays(self):
        self.assertEqual(ring((None,), (5,), []), [(5,)])
        self.assertEqual(ring((None,), (5,), [((0,), ())]), [(0,)])
        self.assertEqual(ring((0,) * 9, (0,) * 9, []), [(0,) * 9])

    def test_from_the_least_one(self):
        for standing in ((1, 0, 0), (0, 1, 0), (0, 0, 1)):
            self.assertEqual(ring(OPEN, standing, TURN), [(0, 0, 1), (0, 1, 0)])

    def test_in_the_order_of_the_days(self):
        # One thing at each of two places, that is taken and left where none lies.
        day = [((3,), (0,)), ((2,), (3,)), ((1,), (2,)), ((0,), (1,))]
        told = [(0, 0, 0, 1), (0, 1, 0, 0), (0, 0, 1, 0)]
        for standing in told + [(1, 0, 0, 0)]:
            self.assertEqual(ring((None,) * 4, standing, day), told)
            self.assertEqual(ring((1,) * 4, standing, day), told)

    def test_by_going_day_by_day(self):
        lengths = []
        for yard, standing, day in drawn_cases():
            gone = round_gone(yard, standing, day)
            told = ring(yard, standing, day)
            self.assertEqual(sorted(told), sorted(gone[gone.index(gone[-1]):-1]))
            self.assertEqual(told[0], min(told))
            for one, other in zip(told, told[1:] + told[:1]):
                self.assertEqual(go(yard, one, day)[1], other)
            lengths.append(len(told))
        self.assertGreater(sum(length > 1 for length in lengths), 20)


class AllRingsTest(unittest.TestCase):
    def test_no_asks(self):
        self.assertEqual(all_rings((None,), [], 5), [[(5,)]])
        self.assertEqual(all_rings((None, None), [], 2), [[(0, 2)], [(1, 1)], [(2, 0)]])
        self.assertEqual(all_rings((1, None), [], 2), [[(0, 2)], [(1, 1)]])
        self.assertEqual(all_rings((1, 0), [], 1), [[(1, 0)]])

    def test_no_things_and_more_than_there_is_room_for(self):
        self.assertEqual(all_rings((None,) * 9, [((0,), ())], 0), [[(0,) * 9]])
        self.assertEqual(all_rings((0, 0), [], 0), [[(0, 0)]])
        self.assertEqual(all_rings((0, 0), [], 1), [])
        self.assertEqual(all_rings((1, 1), [], 3), [])
        self.assertEqual(all_rings((4,), [], 5), [])
        self.assertEqual(all_rings((4,), [], BIG), [])

    def test_what_is_carried_off_does_not_come_again(self):
        self.assertEqual(all_rings((None,), [((0,), ())], 5), [])
        self.assertEqual(all_rings((None, None), [((0,), ())], 3), [[(0, 3)]])

    def test_one_place_and_very_many_things(self):
        self.assertEqual(all_rings((None,), [((0,), (0,))], BIG), [[(BIG,)]])
        self.assertEqual(all_rings((BIG,), [], BIG, most=1), [[(BIG,)]])

    def test_by_their_first_ones(self):
        self.assertEqual(all_rings(OPEN, TURN, 1), [[(0, 0, 1), (0, 1, 0)]])
        self.assertEqual(all_rings(OPEN, TURN, 2), [[(0, 1, 1)]])
        # The least standing comes to the last round.
        self.assertEqual(all_rings(OPEN, [((2,), (0,))], 1), [[(0, 1, 0)], [(1, 0, 0)]])
        day = turning([0, 1]) + turning([2, 3, 4])
        told = all_rings((None,) * 5, day, 1)
        self.assertEqual(told, [[(0, 0, 0, 0, 1), (0, 0, 0, 1, 0)], [(0, 1, 0, 0, 0)]])

    def test_by_the_ring_of_each_standing(self):
        several = 0
        for seed in range(120):
            yard, day = drawn_small_case(seed, [[None], [0, 1, 2], [1, 3, None]][seed % 3])
            if seed % 2:
                yard, day = drawn_turning(seed)
            for things in range(5 - seed % 2):
                rings = []
                for standing in of_things(yard, things):
                    one = ring(yard, standing, day)
                    if standing in one and one not in rings:
                        rings.append(one)
                self.assertEqual(all_rings(yard, day, things), sorted(rings), (yard, day, things))
                several += len(rings) > 1
        self.assertGreater(several, 50)

    def test_all_small_yards(self):
        for yard in small_yards():
            places = tuple(range(len(yard)))
            for day in ([(places, places[::-1])], [(places[::-1], places[-1:]), (places[-1:], places)]):
                for things in range(4):
                    for one in all_rings(yard, day, things):
                        self.assertEqual(ring(yard, one[-1], day), one)

    def test_the_rings_are_lists_of_their_own(self):
        rings = all_rings((None, None), [], 3)
        self.assertEqual([type(one) for one in rings], [list] * 4)
        self.assertEqual(len({id(one) for one in rings}), 4)


class DistanceTest(unittest.TestCase):
    def test_two_standings_on_rounds_keep_their_distance_behind_each_day(self):
        apart = []
        for seed in range(150):
            yard, day = drawn_turning(seed)
            ringed = [row for things in range(4) for one in all_rings(yard, day, things) for row in one]
            for one, other in product(ringed[:12], repeat=2):
                told = together(yard, one, other, day)
                self.assertEqual(told[0], told[-1])
                apart.append(told[0])
        self.assertGreater(sum(far > 0 for far in apart), 500)

    def test_behind_very_many_days(self):
        for number, (yard, standing, day) in enumerate(drawn_cases()):
            one = ring(yard, standing, day)[-1]
            other = ring(yard, tuple(many // 2 for many in standing), day)[0]
            for days in (BIG, BIG + number):
                ends = [many_days(yard, row, day, days)[0] for row in (one, other)]
                self.assertEqual(far_apart(yard, *ends), far_apart(yard, one, other))


class MostTest(unittest.TestCase):
    def test_first_and_length_together(self):
        for yard, standing, day, many in ((OPEN, (1, 0, 0), TURN, 3), ((None,), (5,), [((0,), ())], 6)):
            for function in (round_of, ring):
                told = function(yard, standing, day)
                for most in (many, many + 1, BIG):
                    self.assertEqual(function(yard, standing, day, most=most), told)
                for most in range(1, many):
                    self.assertEqual(too_many(function, yard, standing, day, most=most), most)
                    self.assertIs(refusal(function, yard, standing, day, most=most), TooMany)
        self.assertEqual(round_of((None,), (5,), [], most=1), (0, 1))
        self.assertEqual(ring((None,), (5,), [], most=1), [(5,)])

    def test_the_lesser_of_days_and_of_first_and_length_together(self):
        for days in (*range(10), BIG):
            for most in range(1, 10):
                error = TooMany if min(days, 6) > most else None
                self.assertIs(refusal(many_days, (None,), (5,), [((0,), ())], days, most=most), error)
                if error is None:
                    told = many_days((None,), (5,), [((0,), ())], days, most=most)
                    self.assertEqual(told, ((max(5 - days, 0),), min(days, 5)))
                else:
                    self.assertEqual(too_many(many_days, (None,), (5,), [((0,), ())], days, most=most), most)

    def test_unless_told_five_thousand(self):
        for function, behind in ((round_of, ()), (ring, ()), (many_days, (BIG,))):
            self.assertIsNone(refusal(function, (None,), (4999,), [((0,), ())], *behind))
            self.assertEqual(too_many(function, (None,), (5000,), [((0,), ())], *behind), 5000)
            self.assertEqual(too_many(function, (None,), (BIG,), [((0,), ())], *behind), 5000)
            self.assertIsNone(refusal(function, (None,), (5000,), [((0,), ())], *behind, most=5001))
        self.assertEqual(many_days((None,), (BIG,), [((0,), ())], 5000), ((BIG - 5000,), 5000))
        self.assertEqual(too_many(many_days, (None,), (BIG,), [((0,), ())], 5001), 5000)

    def test_the_standings_of_so_many_things(self):
        # Of three places: 1, 3, 6 and 10, rooms let alone.
        for things, many in enumerate((1, 3, 6, 10)):
            self.assertEqual(len(of_things(OPEN, things)), many)
            for yard in (OPEN, (0, 0, 0), (1, None, 0)):
                self.assertEqual(all_rings(yard, TURN, things, most=many), all_rings(yard, TURN, things))
                if many > 1:
                    self.assertEqual(too_many(all_rings, yard, TURN, things, most=many - 1), many - 1)
        self.assertIsNone(refusal(all_rings, (None, None), [], 4999))
        self.assertEqual(too_many(all_rings, (None, None), [], 5000), 5000)
        self.assertEqual(too_many(all_rings, (0, 0), [], 5000), 5000)
        self.assertIsNone(refusal(all_rings, (0, 0), [], 5000, most=5001))
        self.assertIsNone(refusal(all_rings, (None,) * 9, [], 6))
        self.assertEqual(too_many(all_rings, (1,) * 9, [], 7), 5000)
        self.assertEqual(too_many(all_rings, (None,) * 9, [], BIG, most=BIG), BIG)

    def test_no_number(self):
        for most in wrong_numbers() + [0]:
            self.assertIs(refusal(round_of, (None,), (0,), [], most=most), NoNumber)
            self.assertIs(refusal(ring, (None,), (0,), [], most=most), NoNumber)
            self.assertIs(refusal(many_days, (None,), (0,), [], 0, most=most), NoNumber)
            self.assertIs(refusal(all_rings, (None,), [], 0, most=most), NoNumber)

    def test_by_keyword_alone(self):
        for function, given in (
            (round_of, ((None,), (0,), [])), (ring, ((None,), (0,), [])),
            (many_days, ((None,), (0,), [], 0)), (all_rings, ((None,), [], 0)),
        ):
            with self.assertRaises(TypeError):
                function(*given, 5000)


class RefusalTest(unittest.TestCase):
    def test_no_yard_no_standing_no_day(self):
        for thing in wrong_things():
            for function, behind in ((round_of, ()), (ring, ()), (many_days, (3,)), (many_days, (-3,))):
                self.assertIs(refusal(function, thing, (0, 0), [], *behind), NoYard)
                self.assertIs(refusal(function, (1, 1), thing, [], *behind), NoStanding)
                self.assertIs(refusal(function, (1, 1), (0, 0), thing, *behind), NoDay)
            for things in (1, -1, BIG):
                self.assertIs(refusal(all_rings, thing, [], things), NoYard)
                self.assertIs(refusal(all_rings, (1, 1), thing, things), NoDay)

    def test_no_number_of_days_and_of_things(self):
        for number in wrong_numbers():
            self.assertIs(refusal(many_days, (None,), (0,), [], number), NoNumber)
            self.assertIs(refusal(all_rings, (None,), [], number), NoNumber)

    def test_which_goes_first(self):
        for function, behind in ((round_of, ()), (ring, ()), (many_days, (-1,)), (many_days, (BIG,))):
            for most in (0, 1):
                self.assertIs(refusal(function, [1], (2,), (), *behind, most=most), NoYard)
                self.assertIs(refusal(function, (1,), (2,), (), *behind, most=most), NoStanding)
                self.assertIs(refusal(function, (1,), (1,), (), *behind, most=most), NoDay)
        self.assertIs(refusal(round_of, (None,), (5,), [((0,), ())], most=0), NoNumber)
        self.assertIs(refusal(many_days, (None,), (5,), [((0,), ())], -1, most=1), NoNumber)
        self.assertIs(refusal(many_days, (None,), (5,), [((0,), ())], BIG, most=-1), NoNumber)
        self.assertIs(refusal(all_rings, [1], (), -1, most=0), NoYard)
        self.assertIs(refusal(all_rings, (1,), (), -1, most=0), NoDay)
        self.assertIs(refusal(all_rings, (1, 1), [], -1, most=1), NoNumber)
        self.assertIs(refusal(all_rings, (1, 1), [], BIG, most=True), NoNumber)


if __name__ == "__main__":
    unittest.main()
