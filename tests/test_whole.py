"""Point 4, over the whole program: what stands in one point holds beside all others."""

import unittest
from itertools import product
from random import Random

from onemore.again import all_rings, many_days, ring, round_of
from onemore.kind import bound, is_plan, kindest, prices, worth
from onemore.needs import lacks, least_for, one_fewer
from onemore.pairs import far_apart, meeting, met, together
from onemore.sights import can_be, seen
from onemore.texts import read_day, read_links, read_log, read_standing, read_yard
from onemore.texts import show_day, show_links, show_log, show_standing, show_yard
from onemore.walks import differences, gained, shows, spare, walk
from onemore.wide import keeps, wide_go, wide_harm
from onemore.yards import go, is_day, is_standing, served
from tests.samples import BIG, drawn_case, drawn_open_case, drawn_small_case, drawn_wide_case, nowhere_more
from tests.samples import places_with_room, plus, small_standings


def with_few_things(standing):
    """The standing with ten things at most at each place, that its days may come again soon."""
    return tuple(min(many, 10) for many in standing)


def small_cases():
    """Small yards, all their small standings, and days."""
    for seed in range(80):
        yard, day = drawn_small_case(seed, [[None], [0, 1, 2], [1, 3, None]][seed % 3])
        for standing in small_standings(yard):
            yield yard, standing, day


class DaysThatComeAgainTest(unittest.TestCase):
    """Points 4, 9, 12 and 13 beside 20 and 21."""

    def test_one_thing_more_harms_nobody(self):
        for number, (yard, standing, day) in enumerate(small_cases()):
            for place in places_with_room(yard, standing):
                for days in (1, 2, 3, 7, BIG + number):
                    end, many = many_days(yard, standing, day, days)
                    end_of_more, more = many_days(yard, plus(standing, place), day, days)
                    self.assertGreaterEqual(more, many)
                    self.assertTrue(nowhere_more(end, end_of_more))
                    self.assertLessEqual(far_apart(yard, end, end_of_more), 1)

    def test_as_one_long_day(self):
        # The walk of a day that is written behind itself tells all that one more changes.
        for seed in range(80):
            yard, standing, day = drawn_case(seed)
            standing = with_few_things(standing)
            for place in places_with_room(yard, standing):
                links, spot = walk(yard, standing, day * 3, place)
                end, many = many_days(yard, standing, day, 3)
                end_of_more, more = many_days(yard, plus(standing, place), day, 3)
                self.assertEqual(more - many, len([link for link in links if link[1] == "anew"]))
                self.assertEqual(end_of_more, end if spot is None else plus(end, spot))

    def test_never_farther_apart(self):
        for yard, one, day in small_cases():
            for other in small_standings(yard)[::3]:
                apart = [
                    far_apart(yard, many_days(yard, one, day, days)[0], many_days(yard, other, day, days)[0])
                    for days in (0, 1, 2, 3, 10, BIG)
                ]
                self.assertEqual(apart, sorted(apart, reverse=True))
                self.assertEqual(together(yard, one, other, day)[-1], apart[1])

    def test_once_the_same_they_go_one_round(self):
        for yard, one, day in small_cases():
            for other in small_standings(yard)[::3]:
                if met(yard, one, other, day) is not None:
                    self.assertEqual(ring(yard, one, day), ring(yard, other, day))

    def test_meetings_of_standings_on_rounds(self):
        # The ends of the lesser and of the greater lie around both ends, however many the days.
        for yard, one, day in small_cases():
            for other in small_standings(yard)[::3]:
                for days in (1, 5, BIG):
                    standings = [*meeting(yard, one, other), one, other]
                    lesser, greater, *ends = [many_days(yard, row, day, days)[0] for row in standings]
                    self.assertTrue(all(nowhere_more(lesser, end) and nowhere_more(end, greater) for end in ends))

    def test_rounds_have_their_things_and_their_served_again(self):
        for seed in range(60):
            yard, day = drawn_small_case(seed, [[None], [1, 2], [1, 3, None]][seed % 3])
            for things in range(4):
                for one in all_rings(yard, day, things):
                    self.assertEqual(round_of(yard, one[0], day), (0, len(one)))
                    end, many = many_days(yard, one[0], day, len(one))
                    self.assertEqual(end, one[0])
                    self.assertEqual(many, sum(len(served(yard, standing, day)) for standing in one))
                    for standing in one:
                        self.assertEqual(sum(go(yard, standing, day)[1]), things)


class KindestTest(unittest.TestCase):
    """Points 6, 9, 14 and 16 beside 17 to 19."""

    def test_prices_that_are_told_have_the_bound_that_the_kindest_serves(self):
        for seed in range(150):
            yard, standing, day = drawn_open_case(seed)
            many, plan = kindest(yard, standing, day)
            self.assertEqual(bound(yard, standing, day, prices(yard, standing, day)), many)
            self.assertTrue(is_plan(yard, standing, day, plan))
            self.assertGreaterEqual(many, len(served(yard, standing, day)))

    def test_prices_told_of_one_standing_bound_every_other(self):
        for seed in range(60):
            yard, day = drawn_small_case(seed, [None])
            standings = small_standings(yard)
            for one in standings[::2]:
                paper = prices(yard, one, day)
                for other in standings:
                    self.assertGreaterEqual(bound(yard, other, day, paper), kindest(yard, other, day)[0])

    def test_the_least_standings_that_serve_all_serve_all_at_the_kindest(self):
        for seed in range(150):
            yard, day = drawn_small_case(seed, [None])
            for standing in least_for(yard, day, list(range(len(day)))):
                self.assertEqual(kindest(yard, standing, day)[0], len(day))
                self.assertEqual([worth(yard, standing, day, place) for place in range(len(yard))], [0] * len(yard))

    def test_the_least_standings_that_serve_some_serve_as_many_at_the_kindest(self):
        for seed in range(150):
            yard, day = drawn_small_case(seed, [None])
            some = sorted(Random(seed).sample(range(len(day)), len(day) // 2))
            for standing in least_for(yard, day, some):
                self.assertGreaterEqual(kindest(yard, standing, day)[0], len(some))

    def test_one_more_is_worth_no_more_the_more_there_are(self):
        for seed in range(60):
            yard, standing, day = drawn_open_case(seed)
            for place in range(len(yard)):
                told = [worth(yard, plus(standing, place, more), day, place) for more in range(4)]
                self.assertEqual(told, sorted(told, reverse=True))
                self.assertGreaterEqual(told[-1], 0)

    def test_the_log_of_a_yard_without_bounds_is_a_plan(self):
        # Nothing is carried off in a yard without bounds but where the ask has no leaves.
        for seed in range(150):
            yard, standing, day = drawn_open_case(seed)
            log, _ = go(yard, standing, day)
            self.assertTrue(is_plan(yard, standing, day, log))
            sight = [row is not None for row in log]
            self.assertTrue(can_be(yard, standing, day, sight))
            self.assertGreaterEqual(kindest(yard, standing, day)[0], sight.count(True))


class WideTest(unittest.TestCase):
    """Points 6, 9 and 12 beside 22 to 24."""

    def wide_of(self, day):
        """The day as wide asks, each with its first leaving place beside all its wants."""
        return [[(place, leaves[0]) for place in wants] for wants, leaves in day]

    def test_asks_are_wide_asks(self):
        for seed in range(150):
            yard, standing, day = drawn_open_case(seed)
            day = [(wants, leaves or wants[:1] or (0,)) for wants, leaves in day]
            wide = self.wide_of(day)
            self.assertEqual(wide_go(standing, wide), go(yard, standing, day))
            self.assertEqual([keeps(ask, len(yard)) for ask in wide], [None] * len(day))
            for place in range(len(yard)):
                self.assertIsNone(wide_harm(standing, wide, place))
                lesser, greater = wide_go(standing, wide)[0], wide_go(plus(standing, place), wide)[0]
                anew = [at for at, (less, more) in enumerate(zip(lesser, greater)) if less is None and more is not None]
                self.assertEqual(gained(yard, standing, day, place), anew)

    def test_wide_asks_that_keep_the_promise_differ_by_one_thing(self):
        for seed in range(300):
            standing, day = drawn_wide_case(seed)
            day = [ask[:2] for ask in day if keeps(ask[:2], len(standing)) is None]
            for place in range(len(standing)):
                self.assertIsNone(wide_harm(standing, day, place))
                for many in range(len(day) + 1):
                    lesser, greater = wide_go(standing, day[:many])[1], wide_go(plus(standing, place), day[:many])[1]
                    self.assertTrue(nowhere_more(lesser, greater))
                    self.assertEqual(sum(greater) - sum(lesser), 1)

    def test_what_breaks_it_puts_two_worlds_farther_apart(self):
        broken = 0
        for seed in range(200):
            standing, day = drawn_wide_case(seed)
            for ask in day[:10]:
                told = keeps(ask, len(standing))
                if told is not None:
                    one, place, shown = told
                    self.assertEqual(wide_harm(one, shown, place), 1)
                    ends = [wide_go(row, shown[:1])[1] for row in (one, plus(one, place))]
                    self.assertEqual(far_apart((None,) * len(one), *ends), 3)
                    broken += 1
        self.assertGreater(broken, 100)


class WritingTest(unittest.TestCase):
    """What all others tell beside its writing in point 25."""

    def test_yards_standings_days_logs_and_links(self):
        for seed in range(200):
            yard, standing, day = drawn_case(seed)
            log, end = go(yard, standing, day)
            self.assertEqual(read_yard(show_yard(yard)), yard)
            self.assertEqual(read_day(show_day(day)), day)
            self.assertTrue(is_day((None,) * 9, read_day(show_day(day))))
            self.assertEqual(read_log(show_log(log)), log)
            for one in (standing, end):
                self.assertEqual(read_standing(show_standing(one)), one)
                self.assertTrue(is_standing(yard, read_standing(show_standing(one))))
            for place in places_with_room(yard, standing):
                links, spot = walk(yard, standing, day, place)
                read = read_links(show_links(links))
                self.assertEqual(read, links)
                self.assertTrue(shows(yard, standing, day, place, (read, spot)))

    def test_what_is_read_is_gone_through_alike(self):
        for seed in range(100):
            yard, standing, day = drawn_case(seed)
            texts = show_yard(yard), show_standing(standing), show_day(day)
            read = read_yard(texts[0]), read_standing(texts[1]), read_day(texts[2])
            self.assertEqual(go(*read), go(yard, standing, day))
            self.assertEqual(spare(*read), spare(yard, standing, day))
            for place in places_with_room(yard, standing):
                self.assertEqual(differences(*read, place), differences(yard, standing, day, place))

    def test_logs_of_wide_days_and_plans(self):
        for seed in range(100):
            log, end = wide_go(*drawn_wide_case(seed))
            self.assertEqual((read_log(show_log(log)), read_standing(show_standing(end))), (log, end))
            plan = kindest(*drawn_open_case(seed))[1]
            self.assertEqual(read_log(show_log(plan)), plan)

    def test_standings_of_all_lists(self):
        for seed in range(60):
            yard, day = drawn_small_case(seed, [None])
            some = list(range(len(day)))
            least, greatest = seen(yard, day, [None] * len(day), 2)
            rings = [row for one in all_rings(yard, day, 3) for row in one]
            for standing in least_for(yard, day, some) + least + greatest + rings:
                self.assertEqual(read_standing(show_standing(standing)), standing)


class NeedsAndSightsTest(unittest.TestCase):
    """Points 11, 14, 15 and 16 beside one another."""

    def test_what_is_lacked_is_what_is_not_spare(self):
        for seed in range(100):
            yard, standing, day = drawn_case(seed)
            asked = served(yard, standing, day)
            self.assertIsNone(lacks(yard, standing, day, asked))
            free = [place for place, ask in one_fewer(yard, standing, day, asked) if ask is None]
            # One fewer serves nobody anew, so it serves the same asks where none of them lacks it.
            self.assertEqual(spare(yard, standing, day), free)

    def test_seen_served_is_standing_above_a_least_one(self):
        for seed in range(60):
            yard, day = drawn_small_case(seed, [None])
            some = sorted(Random(seed).sample(range(len(day)), len(day) // 2))
            sight = [True if number in some else None for number in range(len(day))]
            things = len(day)
            least, _ = seen(yard, day, sight, things)
            self.assertEqual(least, [row for row in least_for(yard, day, some) if sum(row) <= things])

    def test_standings_between_two_that_were_seen(self):
        for seed in range(60):
            yard, day = drawn_small_case(seed, [[None], [0, 1, 2], [1, 3, None]][seed % 3])
            for standing in small_standings(yard):
                sight = [row is not None for row in go(yard, standing, day)[0]]
                least, greatest = seen(yard, day, sight, sum(standing))
                for one, other in product(least, greatest):
                    if nowhere_more(one, other):
                        self.assertEqual(served(yard, one, day), served(yard, other, day))
                self.assertTrue(any(nowhere_more(one, standing) for one in least))
                self.assertIn(standing, greatest)


if __name__ == "__main__":
    unittest.main()
