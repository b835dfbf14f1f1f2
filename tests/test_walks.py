"""Points 3, 8 and 9 to 11: the walk of one thing more, and what is told by it."""

import unittest

from onemore.errors import NoDay, NoPlace, NoRoom, NoStanding, NoYard, YardError
from onemore.walks import differences, gained, shows, spare, walk
from tests.samples import BIG, Odd, drawn_case, nested, places_with_room, wrong_things


class WalkTest(unittest.TestCase):
    def assert_walk(self, given, links, spots):
        """The links, and where the difference lies at each moment."""
        self.assertEqual(walk(*given), (links, spots[-1]))
        self.assertEqual(gained(*given), [link[0] for link in links if link[1] == "anew"])
        self.assertEqual(differences(*given), spots)
        self.assertTrue(shows(*given, (links, spots[-1])))

    def test_no_asks(self):
        self.assert_walk(((2, 1), (1, 1), [], 0), [], [0])
        self.assert_walk(((None,), (BIG,), [], 0), [], [0])

    def test_nothing_changes(self):
        day = [((0,), (1,)), ((1, 0), (0,)), ((), (1,)), ((2,), (2,))]
        self.assert_walk(((5, 5, 5), (1, 1, 0), day, 1), [], [1] * 5)

    def test_instead(self):
        self.assert_walk(((5, 5), (0, 1), [((0, 1), ())], 0), [(0, "instead", 0, 1)], [0, 1])
        self.assert_walk(((5, 5), (0, 1), [((1, 0), ())], 0), [], [0, 0])
        self.assert_walk(((5, 5), (1, 1), [((0, 1), ())], 0), [], [0, 0])

    def test_anew(self):
        self.assert_walk(((5, 5), (0, 0), [((1, 0), (1,))], 0), [(0, "anew", 0, 1)], [0, 1])
        self.assert_walk(((5, 5), (0, 0), [((0,), ())], 0), [(0, "anew", 0, None)], [0, None])
        self.assert_walk(((1, 0), (0, 0), [((0,), (1,))], 0), [(0, "anew", 0, None)], [0, None])
        self.assert_walk(((1, 1), (0, 1), [((0,), (1, 0))], 0), [(0, "anew", 0, 0)], [0, 0])
        self.assert_walk(((1, 1), (0, 0), [((1,), ())], 0), [], [0, 0])

    def test_beside(self):
        given = ((2, 1, 3), (1, 0, 0), [((0,), (1, 2))], 1)
        self.assert_walk(given, [(0, "beside", 1, 2)], [1, 2])
        given = ((2, 2, 3), (1, 0, 0), [((0,), (1, 2))], 1)
        self.assert_walk(given, [], [1, 1])
        given = ((2, 1, 3), (1, 0, 3), [((0,), (1, 2, 0))], 1)
        self.assert_walk(given, [(0, "beside", 1, 0)], [1, 0])

    def test_beside_and_carried_off(self):
        self.assert_walk(((1, 1), (1, 0), [((0,), (1,))], 1), [(0, "beside", 1, None)], [1, None])
        self.assert_walk(((1, 1, 0), (1, 0, 0), [((0,), (1, 2))], 1), [(0, "beside", 1, None)], [1, None])

    def test_not_beside_where_the_lesser_world_leaves_ahead(self):
        self.assert_walk(((1, 1, 1), (1, 0, 0), [((0,), (2, 1))], 1), [], [1, 1])

    def test_instead_and_beside_in_one_ask(self):
        given = ((1, 1, 1), (0, 1, 0), [((0, 1), (1, 2))], 0)
        self.assert_walk(given, [(0, "instead", 0, 1), (0, "beside", 1, 2)], [0, 2])
        given = ((1, 1), (0, 1), [((0, 1), (1,))], 0)
        self.assert_walk(given, [(0, "instead", 0, 1), (0, "beside", 1, None)], [0, None])
        given = ((1, 1), (0, 1), [((0, 1), (1, 0))], 0)
        self.assert_walk(given, [(0, "instead", 0, 1), (0, "beside", 1, 0)], [0, 0])
        given = ((1, 2), (0, 1), [((0, 1), (1,))], 0)
        self.assert_walk(given, [(0, "instead", 0, 1)], [0, 1])

    def test_the_place_that_was_taken_from_has_room_again(self):
        self.assert_walk(((1, 2), (0, 1), [((1,), (1, 0))], 1), [], [1, 1])
        self.assert_walk(((1, 2), (0, 1), [((1,), (1, 0))] * 3, 0), [], [0] * 4)

    def test_nothing_changes_behind_what_is_carried_off(self):
        day = [((0,), ()), ((1,), (0,)), ((0, 1), (0, 1)), ((0,), ())]
        self.assert_walk(((1, 1), (0, 1), day, 0), [(0, "anew", 0, None)], [0] + [None] * 4)

    def test_a_walk_of_many_links(self):
        day = [((0, 1), (1, 2)), ((1,), ()), ((2,), ()), ((2,), (2, 1)), ((3, 2), (3,)), ((3,), ())]
        links = [
            (0, "instead", 0, 1), (0, "beside", 1, 2), (3, "anew", 2, 2), (4, "anew", 2, 3), (5, "anew", 3, None),
        ]
        self.assert_walk(((1, 1, None, 1), (0, 1, 1, 0), day, 0), links, [0, 2, 2, 2, 2, 3, None])

    def test_nine_places_many_asks_and_many_things(self):
        day = [((at % 9, (at + 1) % 9), ((at + 1) % 9,)) for at in range(60)]
        links = [(at, "anew", at % 9, (at + 1) % 9) for at in range(60)]
        spots = [at % 9 for at in range(61)]
        self.assert_walk(((None,) * 9, (0,) * 9, day, 0), links, spots)
        self.assert_walk(((None,) * 9, (BIG,) * 9, day, 4), [], [4] * 61)


class SpareTest(unittest.TestCase):
    def test_where_a_thing_lies(self):
        self.assertEqual(spare((3, 3, 3), (2, 0, 1), []), [0, 2])
        self.assertEqual(spare((3, 3), (0, 0), [((0,), ())]), [])

    def test_of_which_one_could_be_taken_away(self):
        self.assertEqual(spare((3, 3), (1, 1), [((0,), ())]), [1])
        self.assertEqual(spare((3, 3), (2, 1), [((0,), ())]), [0, 1])
        self.assertEqual(spare((3, 3), (1, 1), [((0, 1), ())]), [0, 1])
        self.assertEqual(spare((3, 3), (1, 1), [((0, 1), ())] * 2), [])
        self.assertEqual(spare((3, 3), (1, 1), [((0, 1), ()), ((1,), ())]), [])

    def test_asks_that_are_served_in_turn(self):
        self.assertEqual(spare((None, 1), (BIG, 1), [((0,), (0,)), ((1,), (1,))]), [0])
        self.assertEqual(spare((1, 1), (1, 1), [((0,), ()), ((1,), (0,)), ((0,), ())]), [])
        self.assertEqual(spare((1,) * 9, (1,) * 9, [((0, 8), (4,))] * 60), [1, 2, 3, 4, 5, 6, 7])


class ShowsTest(unittest.TestCase):
    GIVEN = ((1, 1, 1), (0, 1, 0), [((0, 1), (1, 2)), ((0,), ()), ((2,), ())], 0)
    WALK = ([(0, "instead", 0, 1), (0, "beside", 1, 2), (2, "anew", 2, None)], None)

    def test_the_walk(self):
        self.assertEqual(walk(*self.GIVEN), self.WALK)
        self.assertIs(shows(*self.GIVEN, self.WALK), True)
        self.assertIs(shows(*self.GIVEN, walk(*self.GIVEN)), True)

    def test_of_anything(self):
        for thing in wrong_things() + [Odd(), ([], None), (self.WALK[0], 0), (self.WALK[0], Odd()), self.WALK[0]]:
            with self.subTest(thing=thing):
                self.assertIs(shows(*self.GIVEN, thing), False)

    def test_of_other_kinds(self):
        links, end = self.WALK
        things = [
            [links, end], (tuple(links), end), ([list(link) for link in links], end), (links, end, None), (links,),
            (dict(enumerate(links)), end), (iter(links), end), (links + [links[-1]], end), (links[:-1], end),
            (list(reversed(links)), end), (links, False), (links, ()), (Odd(), end), nested(40, list),
        ]
        for thing in things:
            with self.subTest(thing=thing):
                self.assertIs(shows(*self.GIVEN, thing), False)

    def test_one_word_or_number_that_is_another(self):
        links, end = self.WALK
        others = (True, False, None, 0, 1, 2, 3, -1, 0.0, 1.0, 2.0, "", "anew", "instead", "beside", "Anew", b"anew")
        for at, link in enumerate(links):
            for part, right in enumerate(link):
                for other in others + (Odd(), (0,), [0], {}, nested(36, list)):
                    thing = link[:part] + (other,) + link[part + 1:]
                    same = type(other) is type(right) and other == right
                    with self.subTest(thing=thing):
                        self.assertIs(shows(*self.GIVEN, (links[:at] + [thing] + links[at + 1:], end)), same)
            for thing in (link[:3], link + (None,), list(link), (), None):
                self.assertIs(shows(*self.GIVEN, (links[:at] + [thing] + links[at + 1:], end)), False)

    def test_another_end(self):
        given = ((2, 2), (0, 0), [], 1)
        self.assertIs(shows(*given, ([], 1)), True)
        for end in (True, 1.0, 0, None, "1", (1,), Odd()):
            self.assertIs(shows(*given, ([], end)), False)

    def test_of_the_walk_of_another_place(self):
        for seed in range(100):
            yard, standing, day = drawn_case(seed)
            roomy = places_with_room(yard, standing)
            made = [walk(yard, standing, day, place) for place in roomy]
            for place, mine in zip(roomy, made):
                for thing in made:
                    self.assertIs(shows(yard, standing, day, place, thing), thing == mine)


class RefusalTest(unittest.TestCase):
    FUNCTIONS = (walk, gained, differences, lambda *given: shows(*given, None))

    def assert_refused(self, error, *given):
        """Each function of a place refuses what is given, by that class alone."""
        for function in self.FUNCTIONS:
            with self.subTest(given=given):
                with self.assertRaises(YardError) as caught:
                    function(*given)
                self.assertIs(type(caught.exception), error)

    def test_no_yard_no_standing_no_day(self):
        for thing in wrong_things():
            self.assert_refused(NoYard, thing, (0, 0), [], 0)
            self.assert_refused(NoStanding, (1, 1), thing, [], 0)
            self.assert_refused(NoDay, (1, 1), (0, 0), thing, 0)

    def test_no_place(self):
        for place in (-1, 2, 9, BIG, None, True, False, 0.0, 1.0, "0", b"0", (0,), [0], {}, {0}, Odd()):
            self.assert_refused(NoPlace, (None, 5), (0, 0), [], place)
            self.assert_refused(NoPlace, (0, 0), (0, 0), [((0,), (1,))], place)

    def test_each_place_is_one(self):
        for places in range(1, 10):
            for place in range(places):
                self.assertEqual(walk((1,) * places, (0,) * places, [], place), ([], place))
            self.assert_refused(NoPlace, (1,) * places, (0,) * places, [], places)

    def test_no_room(self):
        for room in (0, 1, 2, BIG):
            self.assert_refused(NoRoom, (room, 5), (room, 0), [], 0)
            self.assert_refused(NoRoom, (None, room), (BIG, room), [((1,), ())], 1)
            if room:
                self.assertEqual(walk((room, 5), (room - 1, 0), [], 0), ([], 0))

    def test_which_goes_first(self):
        self.assert_refused(NoYard, [1], [1], (), True)
        self.assert_refused(NoYard, (-1,), (0,), [], 0)
        self.assert_refused(NoStanding, (1,), (2,), (), True)
        self.assert_refused(NoStanding, (1,), (2,), [], 0)
        self.assert_refused(NoDay, (1,), (1,), (), True)
        self.assert_refused(NoDay, (1,), (1,), (), 0)
        self.assert_refused(NoPlace, (1,), (1,), [], 1)

    def test_refusals_go_ahead_of_false(self):
        for thing in (None, ([], 0)):
            with self.assertRaises(NoRoom):
                shows((1,), (1,), [], 0, thing)

    def test_of_spare(self):
        for thing in wrong_things():
            for error, given in (
                (NoYard, (thing, (0, 0), [])), (NoStanding, ((1, 1), thing, [])), (NoDay, ((1, 1), (0, 0), thing)),
                (NoYard, (thing, thing, thing)), (NoStanding, ((1, 1), thing, thing)),
            ):
                with self.assertRaises(YardError) as caught:
                    spare(*given)
                self.assertIs(type(caught.exception), error)


if __name__ == "__main__":
    unittest.main()
