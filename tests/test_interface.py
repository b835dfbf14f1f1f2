"""Point 2 and the interface: names, arguments by name, and what is handed in and told."""

import copy
import inspect
import unittest

from onemore import needs, pairs, sights, walks, yards
from tests.samples import drawn_case, places_with_room

ARGUMENTS = {
    yards: {
        "is_yard": ["thing"], "is_standing": ["yard", "thing"], "is_day": ["yard", "thing"],
        "go": ["yard", "standing", "day"], "served": ["yard", "standing", "day"],
    },
    walks: {
        "walk": ["yard", "standing", "day", "place"], "gained": ["yard", "standing", "day", "place"],
        "shows": ["yard", "standing", "day", "place", "thing"],
        "differences": ["yard", "standing", "day", "place"], "spare": ["yard", "standing", "day"],
    },
    pairs: {
        "far_apart": ["yard", "one", "other"], "together": ["yard", "one", "other", "day"],
        "met": ["yard", "one", "other", "day"], "left_out": ["yard", "standing", "day", "number"],
        "meeting": ["yard", "one", "other"],
    },
    needs: {
        "least_for": ["yard", "day", "some"], "lacks": ["yard", "standing", "day", "some"],
        "one_fewer": ["yard", "standing", "day", "some"],
    },
    sights: {
        "can_be": ["yard", "standing", "day", "sight"], "seen": ["yard", "day", "sight", "things"],
    },
}
FUNCTIONS = [(file, name, arguments) for file, table in ARGUMENTS.items() for name, arguments in table.items()]

# These take a most behind their arguments, by keyword alone.
WITH_MOST = ("least_for", "seen")

KINDS = {
    "is_yard": bool, "is_standing": bool, "is_day": bool, "go": tuple, "served": list, "walk": tuple,
    "gained": list, "shows": bool, "differences": list, "spare": list, "far_apart": int, "together": list,
    "met": int, "left_out": list, "meeting": tuple, "least_for": list, "lacks": int, "one_fewer": list,
    "can_be": bool, "seen": tuple,
}

YARD = (1, 1, None)
STANDING = (0, 1, 1)
DAY = [((0, 1), (1, 2)), ((1,), ()), ((2,), ()), ((2,), (2, 1))]
WALK = ([(0, "instead", 0, 1), (0, "beside", 1, 2), (3, "anew", 2, 2)], 2)


def given(name):
    """What a function is handed, by the names of its arguments; each time made anew."""
    thing = {"is_yard": YARD, "is_standing": STANDING, "is_day": copy.deepcopy(DAY), "shows": copy.deepcopy(WALK)}
    yard = (None,) * 3 if name == "least_for" else YARD
    return {
        "yard": yard, "standing": STANDING, "day": copy.deepcopy(DAY), "place": 0, "thing": thing.get(name),
        "one": STANDING, "other": (1, 0, 0), "number": 1, "some": [0, 3], "things": 3,
        "sight": [True, None, True, None],
    }


class ArgumentsTest(unittest.TestCase):
    def test_names_and_order_of_the_arguments(self):
        for file, name, arguments in FUNCTIONS:
            with self.subTest(name=name):
                parameters = inspect.signature(getattr(file, name)).parameters
                told = [(word, row.kind, row.default) for word, row in parameters.items()]
                plain = (inspect.Parameter.POSITIONAL_OR_KEYWORD, inspect.Parameter.empty)
                most = [("most", inspect.Parameter.KEYWORD_ONLY, 5000)] if name in WITH_MOST else []
                self.assertEqual(told, [(word, *plain) for word in arguments] + most)

    def test_each_is_defined_in_its_file(self):
        for file, name, _ in FUNCTIONS:
            self.assertEqual(getattr(file, name).__module__, file.__name__)

    def test_by_name_and_by_place_is_the_same(self):
        for file, name, arguments in FUNCTIONS:
            with self.subTest(name=name):
                function = getattr(file, name)
                table = {word: given(name)[word] for word in reversed(arguments)}
                told = function(*[given(name)[word] for word in arguments])
                self.assertEqual(function(**table), told)
                if name in WITH_MOST:
                    self.assertEqual(function(most=5000, **table), told)

    def test_kinds_of_what_is_told(self):
        for file, name, arguments in FUNCTIONS:
            with self.subTest(name=name):
                told = getattr(file, name)(*[given(name)[word] for word in arguments])
                self.assertIs(type(told), KINDS[name])
        log, end = yards.go(YARD, STANDING, DAY)
        self.assertEqual((type(log), type(end)), (list, tuple))
        links, _ = walks.walk(YARD, STANDING, DAY, 0)
        self.assertIs(type(links), list)
        self.assertEqual({type(row) for row in log + links}, {tuple, type(None)})
        least, greatest = sights.seen(YARD, DAY, [None] * 4, 2)
        self.assertEqual((type(least), type(greatest)), (list, list))
        rows = least + greatest + needs.least_for((None,) * 3, DAY, [0, 3]) + needs.one_fewer(YARD, STANDING, DAY, [0])
        self.assertEqual({type(row) for row in rows + list(pairs.meeting(YARD, STANDING, STANDING))}, {tuple})


class NothingChangedTest(unittest.TestCase):
    def test_what_is_handed_in_stays(self):
        for seed in range(60):
            yard, standing, day = drawn_case(seed)
            kept = copy.deepcopy((yard, standing, day))
            yards.is_day(yard, day)
            yards.go(yard, standing, day)
            yards.served(yard, standing, day)
            walks.spare(yard, standing, day)
            pairs.together(yard, standing, (0,) * len(yard), day)
            pairs.met(yard, standing, (0,) * len(yard), day)
            self.assertEqual((yard, standing, day), kept)
            for place in places_with_room(yard, standing):
                thing = walks.walk(yard, standing, day, place)
                kept_thing = copy.deepcopy(thing)
                walks.gained(yard, standing, day, place)
                walks.differences(yard, standing, day, place)
                self.assertTrue(walks.shows(yard, standing, day, place, thing))
                self.assertEqual(thing, kept_thing)
            self.assertEqual((yard, standing, day), kept)

    def test_lists_of_asks_and_sights_stay(self):
        for seed in range(60):
            yard, standing, day = drawn_case(seed)
            some, sight = list(range(0, len(day), 2)), [(True, False, None)[at % 3] for at in range(len(day))]
            kept = copy.deepcopy((standing, day, some, sight))
            needs.lacks(yard, standing, day, some)
            needs.one_fewer(yard, standing, day, some)
            needs.least_for((None,) * len(yard), day[:4], some[:2], most=10 ** 6)
            sights.can_be(yard, standing, day, sight)
            sights.seen(yard, day, sight, 2)
            for number in some:
                pairs.left_out(yard, standing, day, number)
            self.assertEqual((standing, day, some, sight), kept)

    def test_a_told_list_is_the_askers_own(self):
        def lists(name, file, arguments):
            told = getattr(file, name)(*[given(name)[word] for word in arguments])
            return [told] if isinstance(told, list) else [part for part in told if isinstance(part, list)]

        for file, name, arguments in FUNCTIONS:
            if KINDS[name] not in (list, tuple):
                continue
            with self.subTest(name=name):
                first = lists(name, file, arguments)
                kept = copy.deepcopy(first)
                for row in first:
                    row.clear()
                    row.append("changed")
                self.assertEqual(lists(name, file, arguments), kept)

    def test_the_sample_walk_is_what_it_is_held_to_be(self):
        self.assertEqual(walks.walk(YARD, STANDING, DAY, 0), WALK)

    def test_a_day_that_is_changed_behind_an_answer_leaves_it(self):
        day = copy.deepcopy(DAY)
        told = yards.go(YARD, STANDING, day), walks.walk(YARD, STANDING, day, 0)
        kept = copy.deepcopy(told)
        day.clear()
        self.assertEqual(told, kept)

    def test_what_is_told_may_be_handed_in(self):
        _, end = yards.go(YARD, STANDING, DAY)
        self.assertTrue(yards.is_standing(YARD, end))
        self.assertEqual(yards.go(YARD, end, DAY), yards.go(YARD, tuple(list(end)), list(DAY)))
        lesser, greater = pairs.meeting(YARD, STANDING, (1, 0, 0))
        self.assertEqual(pairs.far_apart(YARD, lesser, greater), 3)
        for least in needs.least_for((None,) * 3, DAY, yards.served(YARD, STANDING, DAY)):
            self.assertIsNone(needs.lacks((None,) * 3, least, DAY, yards.served(YARD, STANDING, DAY)))
        for rows in sights.seen(YARD, DAY, [True] * 4, 3):
            for standing in rows:
                self.assertTrue(sights.can_be(YARD, standing, DAY, [True] * 4))


if __name__ == "__main__":
    unittest.main()
