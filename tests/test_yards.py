"""Points 2, 3 and 5 to 8: yards, standings, days, how a day goes, and what is refused."""

import unittest
from enum import IntEnum

from onemore.errors import NoDay, NoStanding, NoYard
from onemore.yards import go, is_day, is_standing, is_yard, served
from tests.samples import BIG, all_asks, drawn_case, nested, places_with_room, refusal, small_standings
from tests.samples import small_yards, wrong_things


class Spot(IntEnum):
    """Ints by another name."""

    FIRST = 0
    SECOND = 1


class IsYardTest(unittest.TestCase):
    def test_yards(self):
        yards = [(0,), (1,), (None,), (0, 0), (3, None), (None, 0, 2), (BIG,) * 9, (None,) * 9, (Spot.SECOND,)]
        for yard in yards + small_yards():
            with self.subTest(yard=yard):
                self.assertIs(is_yard(yard), True)

    def test_one_to_nine_places(self):
        told = [is_yard((2,) * places) for places in range(12)]
        self.assertEqual(told, [False] + [True] * 9 + [False] * 2)
        self.assertFalse(is_yard((None,) * 10))

    def test_wrong_rooms(self):
        for room in (True, False, -1, -BIG, 1.0, 0.0, "", "1", b"1", (1,), [1], (None,), {}, {1}, nested(40, list)):
            for yard in ((room,), (1, room), (room, None), (1, room, 2)):
                with self.subTest(yard=yard):
                    self.assertIs(is_yard(yard), False)

    def test_of_anything(self):
        self.assertEqual([thing for thing in wrong_things() if is_yard(thing)], [])
        for thing in ([1], [None, 2], {1: 1}, "1", nested(40, list), nested(40, lambda xs=(): tuple(xs))):
            self.assertIs(is_yard(thing), False)


class IsStandingTest(unittest.TestCase):
    def test_standings(self):
        for yard in small_yards():
            for standing in small_standings(yard):
                self.assertIs(is_standing(yard, standing), True)
        self.assertTrue(is_standing((None, BIG), (BIG, BIG)))
        self.assertTrue(is_standing((2, 2), (Spot.FIRST, Spot.SECOND)))
        self.assertTrue(is_standing((3,) * 9, (0, 1, 2, 3, 3, 2, 1, 0, 3)))

    def test_just_at_its_room_and_one_above(self):
        for room in (0, 1, 2, 9, BIG):
            for yard, ahead, behind in (((room,), (), ()), ((5, room), (5,), ()), ((room, None), (), (7,))):
                self.assertIs(is_standing(yard, ahead + (room,) + behind), True)
                self.assertIs(is_standing(yard, ahead + (room + 1,) + behind), False)

    def test_as_many_numbers_as_places(self):
        for places in range(1, 10):
            told = [many for many in range(12) if is_standing((1,) * places, (0,) * many)]
            self.assertEqual(told, [places])

    def test_wrong_numbers(self):
        for many in (True, False, None, -1, 1.0, 0.0, "0", b"0", (0,), [0], {}, set(), nested(40, list)):
            for standing in ((many, 0), (0, many)):
                with self.subTest(standing=standing):
                    self.assertIs(is_standing((2, None), standing), False)

    def test_of_anything(self):
        for yard in ((1, 1), (None, None), (0, 2)):
            self.assertEqual([thing for thing in wrong_things() if is_standing(yard, thing)], [])
        self.assertFalse(is_standing((1, 1), [1, 1]))

    def test_of_no_yard(self):
        for thing in wrong_things():
            self.assertIs(refusal(is_standing, thing, (1, 1)), NoYard)
            self.assertIs(refusal(is_standing, thing, thing), NoYard)


class IsDayTest(unittest.TestCase):
    def test_days(self):
        self.assertIs(is_day((1,), []), True)
        self.assertIs(is_day((1, 0), all_asks(2)), True)
        self.assertIs(is_day((None,) * 3, all_asks(3)), True)
        self.assertIs(is_day((2,) * 9, [(tuple(range(8, -1, -1)), tuple(range(9)))] * 60), True)
        self.assertIs(is_day((2, 2), [((Spot.SECOND, 0), (Spot.FIRST,))]), True)
        for many in (70, 71, 100):
            self.assertIs(is_day((2, 2), [((0, 1), (0, 1))] * many), True)

    def test_places_of_the_yard(self):
        for places in range(1, 10):
            for ask in (lambda at: ((at,), ()), lambda at: ((), (at,)), lambda at: ((at,), (at,))):
                told = [at for at in range(-10, 12) if is_day((1,) * places, [ask(at)])]
                self.assertEqual(told, list(range(places)))

    def test_wrong_places(self):
        for place in (True, False, None, -1, -2, 2, BIG, 0.0, 1.0, "0", b"0", (0,), [0], {}, {0}, nested(36, list)):
            for day in ([((place,), ())], [((), (place,))], [((1, place), (0,))], [((), ()), ((0,), (1, place))]):
                with self.subTest(day=day):
                    self.assertIs(is_day((1, 1), day), False)

    def test_a_place_twice(self):
        for twice in ((0, 0), (1, 0, 1), (2, 1, 0, 2), (0, 1, 1)):
            self.assertIs(is_day((1, 1, 1), [(twice, ())]), False)
            self.assertIs(is_day((1, 1, 1), [((), twice)]), False)
            self.assertIs(is_day((1, 1, 1), [((0,), (0,)), (twice, twice)]), False)

    def test_lists_and_tuples(self):
        day = [((0,), (1,))]
        for thing in (tuple(day), [list(day[0])], [([0], (1,))], [((0,), [1])], day[0], [day], iter(day)):
            self.assertIs(is_day((1, 1), thing), False)

    def test_as_many_parts(self):
        for ask in ((), ((),), ((0,),), ((0,), (1,), ()), ((0,), (1,), None), (0, 1), (0,)):
            self.assertIs(is_day((1, 1), [ask]), False)

    def test_of_anything(self):
        for yard in ((1, 1), (None, None), (0, 2)):
            self.assertEqual([thing for thing in wrong_things() if is_day(yard, thing)], [])

    def test_of_no_yard(self):
        for thing in wrong_things():
            self.assertIs(refusal(is_day, thing, []), NoYard)
            self.assertIs(refusal(is_day, thing, thing), NoYard)


class GoTest(unittest.TestCase):
    def test_first_of_wants_where_one_lies(self):
        self.assertEqual(go((5, 5, 5), (1, 1, 1), [((2, 0), ())]), ([(2, None)], (1, 1, 0)))
        self.assertEqual(go((5, 5, 5), (1, 1, 0), [((2, 0), ())]), ([(0, None)], (0, 1, 0)))
        self.assertEqual(go((5, 5, 5), (0, 1, 0), [((2, 0, 1), ())]), ([(1, None)], (0, 0, 0)))

    def test_goes_without(self):
        self.assertEqual(go((5, 5), (0, 1), [((0,), (1,))]), ([None], (0, 1)))
        self.assertEqual(go((5, 5), (3, 1), [((), (0, 1)), ((), ())]), ([None, None], (3, 1)))

    def test_first_of_leaves_with_room(self):
        self.assertEqual(go((5, 1, None), (1, 1, 0), [((0,), (1, 2, 0))]), ([(0, 2)], (0, 1, 1)))
        self.assertEqual(go((5, 1, None), (1, 0, 0), [((0,), (1, 2, 0))]), ([(0, 1)], (0, 1, 0)))
        self.assertEqual(go((5, 0, None), (1, 0, BIG), [((0,), (1, 2))]), ([(0, 2)], (0, 0, BIG + 1)))

    def test_the_place_that_was_taken_from_has_room_again(self):
        self.assertEqual(go((1, 1), (1, 0), [((0,), (0, 1))]), ([(0, 0)], (1, 0)))
        self.assertEqual(go((1, 1), (1, 1), [((0,), (1, 0))]), ([(0, 0)], (1, 1)))
        self.assertEqual(go((2,), (2,), [((0,), (0,))] * 3), ([(0, 0)] * 3, (2,)))

    def test_carried_off(self):
        self.assertEqual(go((1, 1), (1, 1), [((0,), (1,))]), ([(0, None)], (0, 1)))
        self.assertEqual(go((1, 0), (1, 0), [((0,), (1,))]), ([(0, None)], (0, 0)))
        self.assertEqual(go((1, 1), (1, 1), [((0, 1), ())] * 3), ([(0, None), (1, None), None], (0, 0)))

    def test_no_asks(self):
        self.assertEqual(go((1, 2, None), (1, 0, 7), []), ([], (1, 0, 7)))

    def test_asks_come_one_behind_another(self):
        day = [((0, 1), (2,)), ((0, 1), (2, 3)), ((2,), (1,)), ((0,), (0,)), ((3, 2), (0, 1, 2))]
        log = [(0, 2), (1, 3), (2, 1), None, (3, 0)]
        self.assertEqual(go((1, 1, 1, 2), (1, 1, 0, 0), day), (log, (1, 1, 0, 0)))
        self.assertEqual(served((1, 1, 1, 2), (1, 1, 0, 0), day), [0, 1, 2, 4])

    def test_nine_places_sixty_asks_and_many_things(self):
        day = [((8, 0), (4,)), ((4,), (0, 8))] * 30
        log, end = go((None,) * 9, (BIG,) * 9, day)
        self.assertEqual(log, [(8, 4), (4, 0)] * 30)
        self.assertEqual(end, (BIG + 30,) + (BIG,) * 7 + (BIG - 30,))

    def test_each_row_is_as_the_rule_says(self):
        for seed in range(300):
            yard, standing, day = drawn_case(seed)
            log, end = go(yard, standing, day)
            self.assertEqual(len(log), len(day))
            lying = dict(enumerate(standing))
            for (wants, leaves), row in zip(day, log):
                lies = [place for place in wants if lying[place]]
                self.assertEqual(row is None, not lies)
                if lies:
                    lying[lies[0]] -= 1
                    roomy = [place for place in leaves if place in places_with_room(yard, lying)]
                    self.assertEqual(row, (lies[0], (roomy + [None])[0]))
                    if roomy:
                        lying[roomy[0]] += 1
            self.assertEqual(end, tuple(lying.values()))
            self.assertTrue(is_standing(yard, end))
            self.assertEqual(served(yard, standing, day), [at for at, row in enumerate(log) if row])

    def test_served(self):
        self.assertEqual(served((1,), (1,), []), [])
        self.assertEqual(served((1,), (0,), [((0,), (0,))] * 2), [])
        self.assertEqual(served((2, 0), (2, 0), [((0,), ()), ((), ()), ((1, 0), ()), ((0,), ())]), [0, 2])


class RefusalTest(unittest.TestCase):
    def test_no_yard(self):
        for thing in wrong_things():
            for function in (go, served):
                self.assertIs(refusal(function, thing, (0, 0), []), NoYard)

    def test_no_standing(self):
        for thing in wrong_things():
            for function in (go, served):
                self.assertIs(refusal(function, (1, 1), thing, []), NoStanding)
        self.assertIs(refusal(go, (1, 1), (1, 2), []), NoStanding)
        self.assertIs(refusal(go, (1, 1), (1, 1, 1), []), NoStanding)

    def test_no_day(self):
        for thing in wrong_things():
            for function in (go, served):
                self.assertIs(refusal(function, (1, 1), (1, 1), thing), NoDay)

    def test_which_goes_first(self):
        for function in (go, served):
            self.assertIs(refusal(function, [1], [2], ()), NoYard)
            self.assertIs(refusal(function, (True,), (0,), ()), NoYard)
            self.assertIs(refusal(function, (1,) * 10, (0,) * 10, [((9,), ())]), NoYard)
            self.assertIs(refusal(function, (1,), (2,), ()), NoStanding)
            self.assertIs(refusal(function, (1,), (1,), [((1,), ())]), NoDay)
            self.assertIs(refusal(function, (1,), (1,), [((0,), ())]), None)


if __name__ == "__main__":
    unittest.main()
