"""Points 2, 3, 8 and 17 to 19: plans, the most that any of them serves, prices, and what one more is worth."""

import copy
import unittest
from itertools import product
from random import Random

from onemore.errors import NoDay, NoOpen, NoPlace, NoPrices, NoStanding, NoYard
from onemore.kind import bound, is_plan, kindest, prices, worth
from onemore.yards import go, served
from tests.samples import BIG, Odd, all_asks, drawn_open_case, drawn_small_case, nested, plus, refusal
from tests.samples import wrong_numbers, wrong_things

OPEN = (None, None)

# Of two asks of two places.
TWO = [((0,), (1,)), ((1, 0), ())]


def rows_of(ask):
    """All rows that a plan may have for the ask, whatever lies there."""
    wants, leaves = ask
    return [None] + [(place, other) for place in wants for other in leaves or (None,)]


def behind_row(standing, row):
    """The standing behind a row of a plan, None where no thing lies there."""
    if row is None:
        return standing
    place, other = row
    if standing[place] == 0:
        return None
    less = plus(standing, place, -1)
    return less if other is None else plus(less, other)


def can_be_gone_through(standing, day, plan):
    """By the words: each row is one of its ask, and a thing lies there."""
    for ask, row in zip(day, plan):
        if row not in rows_of(ask) or behind_row(standing, row) is None:
            return False
        standing = behind_row(standing, row)
    return True


def most_served(standing, day):
    """By going through all plans: the most asks that any of them serves."""
    found = {standing: 0}
    for ask in day:
        behind = {}
        for lying, many in found.items():
            for row in rows_of(ask):
                end = behind_row(lying, row)
                if end is not None:
                    behind[end] = max(behind.get(end, 0), many + (row is not None))
        found = behind
    return max(found.values())


def are_right(standing, day, rows, fees):
    """By the words: whether no price rises, and each fee and want pays for itself and each leave."""
    for at, (wants, leaves) in enumerate(day):
        ahead, behind = rows[at], rows[at + 1]
        if any(ahead[place] < behind[place] for place in range(len(standing))):
            return False
        for want in wants:
            for price in [behind[place] for place in leaves] or [0]:
                if fees[at] + ahead[want] < 1 + price:
                    return False
    return True


def drawn_cases():
    """Small yards without bounds, standings and days, with few things and with more."""
    for seed in range(400):
        yard, day = drawn_small_case(seed, [None])
        draw = Random(seed)
        yield yard, tuple(draw.randint(0, 2) for _ in yard), day


def drawn_right_prices(seed, standing, day):
    """Right prices of the day, the same for each seed: of prices that fall at random, and the least fees, or above."""
    draw = Random(seed)
    rows = [[draw.randint(0, 2) for _ in standing]]
    for _ in day:
        rows.insert(0, [price + draw.choice([0, 0, 1]) for price in rows[0]])
    fees = []
    for at, (wants, leaves) in enumerate(day):
        dear = max([rows[at + 1][place] for place in leaves], default=0)
        fees.append(max([0] + [1 + dear - rows[at][place] for place in wants]) + draw.choice([0, 0, 1]))
    return rows, fees


class IsPlanTest(unittest.TestCase):
    def test_no_asks(self):
        self.assertIs(is_plan((None,), (0,), [], []), True)
        self.assertIs(is_plan((None,) * 9, (BIG,) * 9, [], []), True)
        self.assertIs(is_plan((None,), (0,), [], [None]), False)

    def test_going_without_of_their_own_accord(self):
        self.assertIs(is_plan(OPEN, (5, 5), TWO, [None, None]), True)
        self.assertIs(is_plan(OPEN, (5, 5), TWO, [(0, 1), None]), True)
        self.assertIs(is_plan(OPEN, (5, 5), TWO, [None, (0, None)]), True)
        self.assertIs(is_plan((None,), (5,), [((), (0,)), ((), ())], [None, None]), True)

    def test_any_want_and_any_leave(self):
        day = [((0, 1), (1, 2))]
        for place, other in product(range(3), repeat=2):
            right = place in (0, 1) and other in (1, 2)
            self.assertIs(is_plan((None,) * 3, (1, 1, 1), day, [(place, other)]), right)
        self.assertIs(is_plan((None,) * 3, (0, 1, 1), day, [(0, 1)]), False)
        self.assertIs(is_plan((None,) * 3, (0, 1, 1), day, [(1, 1)]), True)

    def test_carried_off_just_where_there_are_no_leaves(self):
        self.assertIs(is_plan((None,), (1,), [((0,), ())], [(0, None)]), True)
        self.assertIs(is_plan((None,), (1,), [((0,), ())], [(0, 0)]), False)
        self.assertIs(is_plan((None,), (1,), [((0,), (0,))], [(0, None)]), False)
        self.assertIs(is_plan((None,), (1,), [((0,), (0,))], [(0, 0)]), True)

    def test_what_was_taken_is_gone_and_what_was_left_lies_there(self):
        self.assertIs(is_plan((None,), (1,), [((0,), ())] * 2, [(0, None)] * 2), False)
        self.assertIs(is_plan((None,), (2,), [((0,), ())] * 2, [(0, None)] * 2), True)
        self.assertIs(is_plan(OPEN, (1, 0), TWO, [(0, 1), (1, None)]), True)
        self.assertIs(is_plan(OPEN, (1, 0), TWO, [(0, 1), (0, None)]), False)
        self.assertIs(is_plan(OPEN, (1, 0), TWO, [None, (1, None)]), False)

    def test_one_thing_is_left(self):
        day = [((0,), (1,)), ((1,), ()), ((1,), ())]
        self.assertIs(is_plan(OPEN, (1, 0), day, [(0, 1), (1, None), None]), True)
        self.assertIs(is_plan(OPEN, (1, 0), day, [(0, 1), (1, None), (1, None)]), False)
        self.assertIs(is_plan(OPEN, (1, 1), day, [(0, 1), (1, None), (1, None)]), True)

    def test_of_anything(self):
        things = [thing for thing in wrong_things() if thing != [None, None]]
        rows = [True, 0, 1, "", "01", (), (0,), (1,), [0, 1], (0, 1, 0), {0: 1}, {0, 1}, Odd(), iter((0, 1))]
        numbers = [number for number in wrong_numbers() if number is not None] + [2, 9, BIG]
        rows += [(number, 1) for number in numbers + [None]] + [(0, number) for number in numbers + [None]]
        things += [[row, None] for row in rows] + [((0, 1), None), {0: None, 1: None}, [None], [None] * 3, [(0, 1)]]
        for thing in things + [nested(40, list)]:
            with self.subTest(thing=thing):
                self.assertIs(is_plan(OPEN, (5, 5), TWO, thing), False)
        for row in [(number, None) for number in numbers] + [(0, number) for number in numbers]:
            self.assertIs(is_plan(OPEN, (5, 5), TWO, [None, row]), False)
        self.assertIs(is_plan(OPEN, (5, 5), TWO, [(0, 1), (0, None)]), True)

    def test_as_the_words_tell_it(self):
        rows = [None] + list(product(range(2), (0, 1, None)))
        for day in product(all_asks(2), repeat=2):
            for standing in ((0, 0), (1, 0), (0, 1)):
                for plan in product(rows, repeat=2):
                    right = can_be_gone_through(standing, day, plan)
                    self.assertIs(is_plan(OPEN, standing, list(day), list(plan)), right, (standing, day, plan))


class KindestTest(unittest.TestCase):
    def check(self, yard, standing, day):
        """The plan can be gone through, and serves as many as is told; as the prices prove, none serves more."""
        many, plan = kindest(yard, standing, day)
        self.assertIs(is_plan(yard, standing, day, plan), True, (standing, day))
        self.assertEqual(len([row for row in plan if row is not None]), many)
        rows, fees = prices(yard, standing, day)
        self.assertTrue(are_right(standing, day, rows, fees), (standing, day))
        self.assertEqual(bound(yard, standing, day, (rows, fees)), many, (standing, day))
        return many

    def test_no_asks_no_things_no_wants(self):
        self.assertEqual(kindest((None,), (5,), []), (0, []))
        self.assertEqual(kindest((None,) * 9, (BIG,) * 9, []), (0, []))
        self.assertEqual(kindest(OPEN, (0, 0), TWO), (0, [None, None]))
        self.assertEqual(kindest(OPEN, (5, 5), [((), (0,)), ((), ())]), (0, [None, None]))

    def test_one_plan_alone_is_the_kindest(self):
        self.assertEqual(kindest((None,), (1,), [((0,), (0,))] * 70), (70, [(0, 0)] * 70))
        self.assertEqual(kindest(OPEN, (1, 0), TWO), (2, [(0, 1), (1, None)]))
        self.assertEqual(kindest((None,), (69,), [((0,), ())] * 70)[0], 69)
        self.assertEqual(kindest((None,), (70,), [((0,), ())] * 70), (70, [(0, None)] * 70))
        self.assertEqual(kindest((None,), (71,), [((0,), ())] * 70), (70, [(0, None)] * 70))

    def test_an_ask_that_goes_without_of_its_own_accord(self):
        day = [((0,), ()), ((0,), (0,)), ((0,), (0,))]
        self.assertEqual(kindest((None,), (1,), day), (2, [None, (0, 0), (0, 0)]))
        self.assertEqual(served((None,), (1,), day), [0])

    def test_another_want_and_another_leave_than_the_first(self):
        self.assertEqual(kindest(OPEN, (1, 1), [((0, 1), ()), ((0,), ())]), (2, [(1, None), (0, None)]))
        self.assertEqual(kindest(OPEN, (1, 0), [((0,), (0, 1)), ((1,), ())]), (2, [(0, 1), (1, None)]))
        self.assertEqual(served(OPEN, (1, 1), [((0, 1), ()), ((0,), ())]), [0])
        self.assertEqual(served(OPEN, (1, 0), [((0,), (0, 1)), ((1,), ())]), [0])

    def test_a_thing_that_goes_another_way_for_one_more(self):
        # Each thing alone would go to place 1; only together do they go to both.
        day = [((0,), (1, 2)), ((0,), (1, 2)), ((1,), ()), ((2,), ()), ((1,), ())]
        self.assertEqual(kindest((None,) * 3, (2, 0, 0), day)[0], 4)
        self.assertEqual(kindest((None,) * 3, (2, 1, 0), day)[0], 5)

    def test_as_all_plans_tell_it(self):
        above = 0
        for yard, standing, day in drawn_cases():
            many = self.check(yard, standing, day)
            self.assertEqual(many, most_served(standing, day), (standing, day))
            above += many > len(served(yard, standing, day))
        self.assertGreater(above, 15)

    def test_all_days_of_two_asks(self):
        for day in product(all_asks(2), repeat=2):
            for standing in ((0, 0), (1, 0), (0, 1), (1, 1)):
                self.assertEqual(self.check(OPEN, standing, list(day)), most_served(standing, day))

    def test_big_days_and_many_things(self):
        for seed in range(200):
            yard, standing, day = drawn_open_case(seed)
            self.assertGreaterEqual(self.check(yard, standing, day), len(served(yard, standing, day)))

    def test_nine_places_and_seventy_asks(self):
        # By no plans gone through: of these there are more than could ever be.
        for seed in range(40):
            draw = Random(seed)
            most = draw.choice([1, 2, 4, 9])
            day = [tuple(tuple(draw.sample(range(9), draw.randint(0, most))) for _ in range(2)) for _ in range(70)]
            for top in (1, 3, BIG):
                self.check((None,) * 9, tuple(draw.randint(0, top) for _ in range(9)), day)
        places = tuple(range(9))
        self.assertEqual(self.check((None,) * 9, (0,) * 8 + (1,), [(places, places)] * 70), 70)
        self.assertEqual(self.check((None,) * 9, (7,) * 9, [(places, ())] * 70), 63)

    def test_what_the_yard_serves_is_served_at_the_kindest(self):
        for seed in range(100):
            yard, standing, day = drawn_open_case(seed)
            if all(leaves for _, leaves in day):
                self.assertIs(is_plan(yard, standing, day, go(yard, standing, day)[0]), True)


class BoundTest(unittest.TestCase):
    def test_no_asks(self):
        self.assertEqual(bound((None,), (5,), [], ([[0]], [])), 0)
        self.assertEqual(bound((None,), (5,), [], ([[3]], [])), 15)
        self.assertEqual(bound(OPEN, (0, 7), [], ([[9, 2]], [])), 14)
        self.assertEqual(bound((None,) * 9, (BIG,) * 9, [], ([[BIG] * 9], [])), 9 * BIG * BIG)

    def test_the_first_prices_and_all_fees(self):
        self.assertEqual(bound(OPEN, (2, 3), TWO, ([[5, 4], [5, 4], [1, 0]], [0, 0])), 22)
        self.assertEqual(bound(OPEN, (2, 3), TWO, ([[0, 0], [0, 0], [0, 0]], [1, 1])), 2)
        self.assertEqual(bound(OPEN, (2, 3), TWO, ([[1, 0], [0, 0], [0, 0]], [7, 9])), 18)
        self.assertEqual(bound(OPEN, (2, 3), TWO, ([[2, 1], [1, 1], [0, 0]], [0, 0])), 7)

    def test_no_price_rises(self):
        for ahead, behind in product(range(3), repeat=2):
            error = NoPrices if behind > ahead else None
            self.assertIs(refusal(bound, (None,), (0,), [((), ())], ([[ahead], [behind]], [0])), error)
            self.assertIs(refusal(bound, OPEN, (0, 0), [((), ())], ([[9, ahead], [0, behind]], [0])), error)

    def test_fee_and_want_are_no_less_than_one_and_each_leave(self):
        for fee, ahead, behind in product(range(4), range(6), range(4)):
            rows = [[ahead, 9, 9], [0, behind, 0]]
            given = ((None,) * 3, (0, 0, 0))
            for leaves in ((1,), (1, 2), (2, 1), (2, 0, 1)):
                error = NoPrices if fee + ahead < 1 + behind else None
                self.assertIs(refusal(bound, *given, [((0,), leaves)], (rows, [fee])), error)
                self.assertIs(refusal(bound, *given, [((1, 0, 2), leaves)], (rows, [fee])), error)
                self.assertIsNone(refusal(bound, *given, [((), leaves)], (rows, [fee])))
            self.assertIs(refusal(bound, *given, [((0,), ())], (rows, [fee])), None if fee + ahead else NoPrices)

    def test_all_moments_are_asked(self):
        for at in range(70):
            rows, fees = [[0]] * 71, [1] * 70
            self.assertEqual(bound((None,), (BIG,), [((0,), (0,))] * 70, (rows, fees)), 70)
            wrong = fees[:at] + [0] + fees[at + 1:]
            self.assertIs(refusal(bound, (None,), (BIG,), [((0,), (0,))] * 70, (rows, wrong)), NoPrices)

    def test_no_plan_serves_more(self):
        for seed, (yard, standing, day) in enumerate(drawn_cases()):
            rows, fees = drawn_right_prices(seed, standing, day)
            self.assertTrue(are_right(standing, day, rows, fees))
            told = bound(yard, standing, day, (rows, fees))
            self.assertEqual(told, sum(many * price for many, price in zip(standing, rows[0])) + sum(fees))
            self.assertGreaterEqual(told, kindest(yard, standing, day)[0])

    def test_one_number_lower(self):
        told = []
        for yard, standing, day in drawn_cases():
            paper = prices(yard, standing, day)
            for numbers in range(len(paper[0]) + 1):
                for at in range(len((paper[0] + [paper[1]])[numbers])):
                    other = copy.deepcopy(paper)
                    row = (other[0] + [other[1]])[numbers]
                    row[at] -= 1
                    right = row[at] >= 0 and are_right(standing, day, *other)
                    self.assertIs(refusal(bound, yard, standing, day, other), None if right else NoPrices)
                    told.append(right)
        self.assertGreater(min(told.count(True), told.count(False)), 40)

    def test_no_prices_of_anything(self):
        rows, fees = [[3, 2], [2, 2], [0, 0]], [0, 0]
        self.assertEqual(bound(OPEN, (1, 1), TWO, (rows, fees)), 5)
        things = wrong_things() + [
            [rows, fees], (rows,), (rows, fees, fees), (tuple(rows), fees), (rows, tuple(fees)), (fees, rows),
            (rows[:2], fees), (rows + [[0, 0]], fees), (rows, [0]), (rows, [0] * 3), (rows, None), (None, fees),
            ([(3, 2), [2, 2], [0, 0]], fees), ([[3, 2], [2, 2], (0, 0)], fees), ([[3, 2], [2], [0, 0]], fees),
            ([[3, 2, 2], [2, 2], [0, 0]], fees), ([[3, 2], [2, 2], [0]], fees), ([None, [2, 2], [0, 0]], fees), (dict(enumerate(rows)), fees),
            (rows, {0: 0, 1: 0}), (iter(rows), fees), (Odd(), fees), (rows, Odd()), ([Odd()] * 3, fees),
            (nested(38, list), fees), {0: rows, 1: fees}, ([], []), ([[]], [[]]),
        ]
        for number in wrong_numbers():
            things += [([[3, 2], [2, 2], [number, 0]], fees), ([[3, number], [2, 0], [0, 0]], [5, 5])]
            things += [(rows, [number, 0]), (rows, [0, number])]
        for thing in things:
            with self.subTest(thing=thing):
                self.assertIs(refusal(bound, OPEN, (1, 1), TWO, thing), NoPrices)


class PricesTest(unittest.TestCase):
    def test_no_asks_no_things(self):
        rows, fees = prices((None,), (5,), [])
        self.assertEqual((rows, fees), ([[0]], []))
        rows, fees = prices(OPEN, (0, 0), TWO)
        self.assertEqual((len(rows), fees), (3, [0, 0]))

    def test_of_one_place_there_is_no_choice(self):
        # Of many things none may have a price, so each ask pays for itself; of one, it pays for all.
        self.assertEqual(prices((None,), (BIG,), [((0,), (0,))] * 3), ([[0]] * 4, [1] * 3))
        self.assertEqual(bound((None,), (1,), [((0,), ())] * 3, prices((None,), (1,), [((0,), ())] * 3)), 1)

    def test_the_kinds_and_lengths(self):
        for seed in range(60):
            yard, standing, day = drawn_open_case(seed)
            rows, fees = prices(yard, standing, day)
            self.assertEqual([len(row) for row in rows], [len(yard)] * (len(day) + 1))
            self.assertEqual(len(fees), len(day))
            self.assertEqual({type(number) for row in rows + [fees] for number in row}, {int})
            self.assertTrue(are_right(standing, day, rows, fees))
            self.assertEqual(len({id(row) for row in rows}), len(rows))


class WorthTest(unittest.TestCase):
    def test_no_asks_and_asks_of_no_wants(self):
        self.assertEqual(worth((None,), (0,), [], 0), 0)
        self.assertEqual(worth((None,) * 9, (BIG,) * 9, [((), (0,))] * 70, 8), 0)

    def test_of_one_thing(self):
        self.assertEqual([worth((None,), (many,), [((0,), ())] * 3, 0) for many in range(5)], [1, 1, 1, 0, 0])
        self.assertEqual([worth((None,), (many,), [((0,), (0,))] * 70, 0) for many in range(3)], [70, 0, 0])
        self.assertEqual([worth(OPEN, (0, 0), TWO, place) for place in (0, 1)], [2, 1])
        self.assertEqual([worth(OPEN, (1, 0), TWO, place) for place in (0, 1)], [0, 0])
        self.assertEqual([worth(OPEN, (0, 1), TWO, place) for place in (0, 1)], [1, 0])
        self.assertEqual(worth(OPEN, (0, BIG), TWO, 0), 1)

    def test_by_the_kindest(self):
        for yard, standing, day in drawn_cases():
            many = most_served(standing, day)
            for place in range(len(yard)):
                more = most_served(plus(standing, place), day)
                self.assertEqual(worth(yard, standing, day, place), more - many, (standing, day, place))

    def test_of_big_days(self):
        for seed in range(80):
            yard, standing, day = drawn_open_case(seed)
            many, _ = kindest(yard, standing, day)
            for place in range(len(yard)):
                told = worth(yard, standing, day, place)
                self.assertEqual(told, kindest(yard, plus(standing, place), day)[0] - many)

    def test_no_greater_with_one_more_at_any_place(self):
        for yard, standing, day in drawn_cases():
            for place in range(len(yard)):
                told = worth(yard, standing, day, place)
                self.assertGreaterEqual(told, 0)
                for other in range(len(yard)):
                    self.assertLessEqual(worth(yard, plus(standing, other), day, place), told)

    def test_of_asks_in_their_order_it_may_be_greater(self):
        day = [((0, 1), ()), ((0,), ())]
        told = [len(served(OPEN, (many, 1), day)) for many in range(3)]
        self.assertEqual(told, [1, 1, 2])
        self.assertEqual([worth(OPEN, (many, 1), day, 0) for many in range(3)], [1, 0, 0])


class RefusalTest(unittest.TestCase):
    # Each with what it is handed behind the day, right and wrong.
    FUNCTIONS = (
        (is_plan, [None, None], 7), (kindest,), (prices,), (worth, 0, 2),
        (bound, ([[3, 2], [2, 2], [0, 0]], [0, 0]), ([], [])),
    )

    def all_refused(self, error, *given):
        """Each function refuses what is given, whatever is handed in behind it."""
        for function, *behind in self.FUNCTIONS:
            for last in behind or [None]:
                with self.subTest(given=given):
                    self.assertIs(refusal(function, *given, *([last] if behind else [])), error)

    def test_no_yard_no_standing_no_day(self):
        for thing in wrong_things():
            self.all_refused(NoYard, thing, (0, 0), TWO)
            self.all_refused(NoStanding, OPEN, thing, TWO)
            self.all_refused(NoDay, OPEN, (0, 0), thing)

    def test_no_open(self):
        for yard in ((0, 0), (5, 5), (None, 5), (0, None), (BIG, None)):
            self.all_refused(NoOpen, yard, (0, 0), TWO)
        self.all_refused(NoOpen, (None,) * 8 + (70,), (0,) * 9, [])

    def test_no_place(self):
        for place in wrong_numbers() + [2, 3, 9, BIG]:
            self.assertIs(refusal(worth, OPEN, (0, 0), TWO, place), NoPlace)
        for place in (0, 1):
            self.assertIsNone(refusal(worth, OPEN, (0, 0), TWO, place))

    def test_which_goes_first(self):
        self.all_refused(NoYard, [None], [1], ())
        self.all_refused(NoYard, (-1, 5), (0, 0), TWO)
        self.all_refused(NoStanding, (5, 5), (6, 0), ())
        self.all_refused(NoStanding, (5, 5), (6, 0), TWO)
        self.all_refused(NoDay, (5, 5), (0, 0), ())
        self.all_refused(NoOpen, (5, 5), (0, 0), TWO)


if __name__ == "__main__":
    unittest.main()
