"""Points 4 and 9 to 11: the walk is as going through the day twice, with and without one thing more."""

import unittest
from itertools import product

from onemore.walks import differences, gained, shows, spare, walk
from onemore.yards import go, is_standing, served
from tests.samples import all_asks, drawn_case, moments, places_with_room, plus, small_standings, small_yards


def links_of_two(lesser, greater):
    """The links, told by the logs of both worlds."""
    links = []
    for number, (less, more) in enumerate(zip(lesser, greater)):
        if less is None and more is not None:
            links.append((number, "anew", *more))
        if less is not None and more[0] != less[0]:
            links.append((number, "instead", more[0], less[0]))
        if less is not None and more[1] != less[1]:
            links.append((number, "beside", less[1], more[1]))
    return links


def spot_of(less, more):
    """Where two standings differ: by one thing at one place, or (None) by none."""
    apart = [(place, more[place] - less[place]) for place in range(len(less)) if more[place] != less[place]]
    if not apart:
        return None
    (place, many), = apart
    if many != 1:
        raise AssertionError((less, more))
    return place


class TwoWorldsTest(unittest.TestCase):
    def check(self, yard, standing, day, place):
        """One thing more at the place, by both worlds."""
        given = (yard, standing, day, place)
        greater = plus(standing, place)
        lesser_log, lesser_end = go(yard, standing, day)
        greater_log, greater_end = go(yard, greater, day)
        asked = served(yard, standing, day)
        asked_of_more = served(yard, greater, day)
        self.assertEqual([ask for ask in asked if ask not in asked_of_more], [], given)
        links = links_of_two(lesser_log, greater_log)
        self.assertEqual(walk(*given), (links, spot_of(lesser_end, greater_end)), given)
        self.assertEqual(gained(*given), [ask for ask in asked_of_more if ask not in asked], given)
        self.assertTrue(shows(*given, (links, spot_of(lesser_end, greater_end))), given)

    def check_moments(self, yard, standing, day, place):
        """Where the difference lies at each moment, by both worlds."""
        lesser = moments(yard, standing, day)
        greater = moments(yard, plus(standing, place), day)
        spots = [spot_of(less, more) for less, more in zip(lesser, greater)]
        self.assertEqual(differences(yard, standing, day, place), spots)
        self.assertEqual(len(spots), len(day) + 1)

    def check_spare(self, yard, standing, day):
        """Which things could be taken away, by going through the day without them."""
        asked = served(yard, standing, day)
        rows = [place for place, many in enumerate(standing) if many]
        free = [place for place in rows if served(yard, plus(standing, place, -1), day) == asked]
        self.assertEqual(spare(yard, standing, day), free)

    def check_all(self, yard, standing, day):
        """All that is told of one more, of each place that has room."""
        for place in places_with_room(yard, standing):
            self.check(yard, standing, day, place)
            self.check_moments(yard, standing, day, place)
        self.check_spare(yard, standing, day)

    def test_small_yards_and_days_of_one_ask(self):
        for yard in small_yards():
            for standing in small_standings(yard):
                for ask in all_asks(len(yard)):
                    self.check_all(yard, standing, [ask])

    def test_small_yards_and_days_of_two_asks(self):
        for yard in ((1, 1), (1, None), (0, 2), (2, 1)):
            for standing in small_standings(yard):
                for day in product(all_asks(2), repeat=2):
                    self.check_all(yard, standing, list(day))

    def test_three_places_and_one_ask(self):
        for yard in ((1, 1, 1), (1, 0, None), (2, 1, 1)):
            for standing in small_standings(yard):
                for ask in all_asks(3):
                    self.check_all(yard, standing, [ask])

    def test_days_of_many_asks(self):
        for seed in range(600):
            self.check_all(*drawn_case(seed))

    def test_the_drawn_days_have_all_kinds_of_links(self):
        seen = {}
        for seed in range(600):
            yard, standing, day = drawn_case(seed)
            for place in places_with_room(yard, standing):
                self.assertTrue(is_standing(yard, plus(standing, place)))
                links, end = walk(yard, standing, day, place)
                words = [link[:2] for link in links]
                both = [1 for at, word in words if word == "instead" and (at, "beside") in words]
                for word in [word for _, word in words] + ["both"] * len(both) + ["off"] * (end is None):
                    seen[word] = seen.get(word, 0) + 1
        for word in ("instead", "anew", "beside", "both", "off"):
            self.assertGreater(seen[word], 50, word)


if __name__ == "__main__":
    unittest.main()
