"""Point 2 and the interface: names, arguments by name, and what is handed in and told."""

import copy
import inspect
import unittest

from onemore import again, kind, needs, pairs, sights, texts, walks, wide, yards
from tests.samples import drawn_case, drawn_open_case, drawn_wide_case, lists_within, places_with_room

ARGUMENTS = {
    yards: {
        "is_yard": ["thing"], "is_standing": ["yard", "thing"], "is_day": ["yard", "thing"],
        "go": ["yard", "standing", "day"], "served": ["yard", "standing", "day"],
    },
    walks: {
        "walk": ["yard", "standing", "day", "place"], "gained": ["yard", "standing", "day", "place"],
        "shows": ["yard", "standing", "day", "place", "thing"],
        "differences": ["yard", "standing", "day", "place"], "spare": ["yard", "standing", "day"],
    },
    pairs: {
        "far_apart": ["yard", "one", "other"], "together": ["yard", "one", "other", "day"],
        "met": ["yard", "one", "other", "day"], "left_out": ["yard", "standing", "day", "number"],
        "meeting": ["yard", "one", "other"],
    },
    needs: {
        "least_for": ["yard", "day", "some"], "lacks": ["yard", "standing", "day", "some"],
        "one_fewer": ["yard", "standing", "day", "some"],
    },
    sights: {
        "can_be": ["yard", "standing", "day", "sight"], "seen": ["yard", "day", "sight", "things"],
    },
    kind: {
        "is_plan": ["yard", "standing", "day", "thing"], "kindest": ["yard", "standing", "day"],
        "bound": ["yard", "standing", "day", "prices"], "prices": ["yard", "standing", "day"],
        "worth": ["yard", "standing", "day", "place"],
    },
    again: {
        "round_of": ["yard", "standing", "day"], "many_days": ["yard", "standing", "day", "days"],
        "ring": ["yard", "standing", "day"], "all_rings": ["yard", "day", "things"],
    },
    wide: {"wide_go": ["standing", "day"], "wide_harm": ["standing", "day", "place"], "keeps": ["ask", "many"]},
    texts: {
        "show_yard": ["yard"], "show_standing": ["standing"], "show_day": ["day"], "show_log": ["log"],
        "show_links": ["links"], "read_yard": ["text"], "read_standing": ["text"], "read_day": ["text"],
        "read_log": ["text"], "read_links": ["text"],
    },
}
FUNCTIONS = [(file, name, arguments) for file, table in ARGUMENTS.items() for name, arguments in table.items()]

# These take a most behind their arguments, by keyword alone.
WITH_MOST = ("least_for", "seen", "round_of", "many_days", "ring", "all_rings")

KINDS = {
    "is_yard": bool, "is_standing": bool, "is_day": bool, "go": tuple, "served": list, "walk": tuple,
    "gained": list, "shows": bool, "differences": list, "spare": list, "far_apart": int, "together": list,
    "met": int, "left_out": list, "meeting": tuple, "least_for": list, "lacks": int, "one_fewer": list,
    "can_be": bool, "seen": tuple, "is_plan": bool, "kindest": tuple, "bound": int, "prices": tuple, "worth": int,
    "round_of": tuple, "many_days": tuple, "ring": list, "all_rings": list, "wide_go": tuple, "wide_harm": int,
    "keeps": tuple, "show_yard": str, "show_standing": str, "show_day": str, "show_log": str, "show_links": str,
    "read_yard": tuple, "read_standing": tuple, "read_day": list, "read_log": list, "read_links": list,
}

YARD = (1, 1, None)
STANDING = (0, 1, 1)
DAY = [((0, 1), (1, 2)), ((1,), ()), ((2,), ()), ((2,), (2, 1))]
TURN = [((2,), (0,)), ((1,), (2,)), ((0,), (1,))]
WIDE = [(0, 2), (1, 1), (2, 0)]
PAPER = ([[2, 2, 1], [0, 2, 1], [0, 1, 1], [0, 0, 1], [0, 0, 0]], [1, 0, 0, 0])
WALK = ([(0, "instead", 0, 1), (0, "beside", 1, 2), (3, "anew", 2, 2)], 2)

# The functions of yards without bounds.
OF_OPEN = ("least_for", *ARGUMENTS[kind])

# What is handed in where another function is handed something else by that name.
OTHERS = {
    "is_yard": {"thing": YARD}, "is_standing": {"thing": STANDING}, "is_day": {"thing": DAY}, "shows": {"thing": WALK},
    "is_plan": {"thing": [(0, 2), None, (2, None), None]}, "wide_go": {"day": [WIDE, [(0, 0)]]},
    "wide_harm": {"standing": (0, 0, 1), "day": [WIDE, [(0, 0)]]}, "all_rings": {"day": TURN, "things": 1},
    "read_yard": {"text": "1 1 -"}, "read_standing": {"text": "0 1 1"}, "read_day": {"text": "0 1>1 2;1>"},
    "read_log": {"text": "1>1 1>x ."}, "read_links": {"text": "3:anew:2:x"},
}


def given(name):
    """What a function is handed, by the names of its arguments; each time made anew."""
    table = {
        "yard": (None,) * 3 if name in OF_OPEN else YARD, "standing": STANDING, "day": DAY, "place": 0,
        "one": STANDING, "other": (1, 0, 0), "number": 1, "some": [0, 3], "things": 3,
        "sight": [True, None, True, None], "prices": PAPER, "days": 10 ** 15, "ask": WIDE, "many": 3,
        "log": [(1, 1), (1, None), None], "links": WALK[0],
    }
    return copy.deepcopy({**table, **OTHERS.get(name, {})})


def called(file, name, arguments):
    """What a function tells of what it is given."""
    return getattr(file, name)(*[given(name)[word] for word in arguments])


class ArgumentsTest(unittest.TestCase):
    def test_names_and_order_of_the_arguments(self):
        for file, name, arguments in FUNCTIONS:
            with self.subTest(name=name):
                parameters = inspect.signature(getattr(file, name)).parameters
                told = [(word, row.kind, row.default) for word, row in parameters.items()]
                plain = (inspect.Parameter.POSITIONAL_OR_KEYWORD, inspect.Parameter.empty)
                most = [("most", inspect.Parameter.KEYWORD_ONLY, 5000)] if name in WITH_MOST else []
                self.assertEqual(told, [(word, *plain) for word in arguments] + most)

    def test_each_is_defined_in_its_file(self):
        for file, name, _ in FUNCTIONS:
            self.assertEqual(getattr(file, name).__module__, file.__name__)

    def test_by_name_and_by_place_is_the_same(self):
        for file, name, arguments in FUNCTIONS:
            with self.subTest(name=name):
                function = getattr(file, name)
                table = {word: given(name)[word] for word in reversed(arguments)}
                told = called(file, name, arguments)
                self.assertEqual(function(**table), told)
                if name in WITH_MOST:
                    self.assertEqual(function(most=5000, **table), told)

    def test_kinds_of_what_is_told(self):
        for file, name, arguments in FUNCTIONS:
            with self.subTest(name=name):
                self.assertIs(type(called(file, name, arguments)), KINDS[name])
        log, end = yards.go(YARD, STANDING, DAY)
        self.assertEqual((type(log), type(end)), (list, tuple))
        links, _ = walks.walk(YARD, STANDING, DAY, 0)
        self.assertIs(type(links), list)
        self.assertEqual({type(row) for row in log + links}, {tuple, type(None)})
        least, greatest = sights.seen(YARD, DAY, [None] * 4, 2)
        self.assertEqual((type(least), type(greatest)), (list, list))
        rows = least + greatest + needs.least_for((None,) * 3, DAY, [0, 3]) + needs.one_fewer(YARD, STANDING, DAY, [0])
        self.assertEqual({type(row) for row in rows + list(pairs.meeting(YARD, STANDING, STANDING))}, {tuple})

    def test_kinds_within_what_is_told(self):
        def kinds(name, file):
            return [type(part) for part in called(file, name, ARGUMENTS[file][name])]

        for file, name, parts in (
            (kind, "kindest", [int, list]), (kind, "prices", [list, list]), (again, "round_of", [int, int]),
            (again, "many_days", [tuple, int]), (again, "ring", [tuple]), (again, "all_rings", [list]),
            (wide, "wide_go", [list, tuple]), (wide, "keeps", [tuple, int, list]),
        ):
            with self.subTest(name=name):
                self.assertEqual(kinds(name, file), parts)


class NothingChangedTest(unittest.TestCase):
    def test_what_is_handed_in_stays(self):
        for seed in range(60):
            yard, standing, day = drawn_case(seed)
            kept = copy.deepcopy((yard, standing, day))
            yards.is_day(yard, day)
            yards.go(yard, standing, day)
            yards.served(yard, standing, day)
            walks.spare(yard, standing, day)
            pairs.together(yard, standing, (0,) * len(yard), day)
            pairs.met(yard, standing, (0,) * len(yard), day)
            self.assertEqual((yard, standing, day), kept)
            for place in places_with_room(yard, standing):
                thing = walks.walk(yard, standing, day, place)
                kept_thing = copy.deepcopy(thing)
                walks.gained(yard, standing, day, place)
                walks.differences(yard, standing, day, place)
                self.assertTrue(walks.shows(yard, standing, day, place, thing))
                self.assertEqual(thing, kept_thing)
            self.assertEqual((yard, standing, day), kept)

    def test_lists_of_asks_and_sights_stay(self):
        for seed in range(60):
            yard, standing, day = drawn_case(seed)
            some, sight = list(range(0, len(day), 2)), [(True, False, None)[at % 3] for at in range(len(day))]
            kept = copy.deepcopy((standing, day, some, sight))
            needs.lacks(yard, standing, day, some)
            needs.one_fewer(yard, standing, day, some)
            needs.least_for((None,) * len(yard), day[:4], some[:2], most=10 ** 6)
            sights.can_be(yard, standing, day, sight)
            sights.seen(yard, day, sight, 2)
            for number in some:
                pairs.left_out(yard, standing, day, number)
            self.assertEqual((standing, day, some, sight), kept)

    def test_the_kinder_the_wider_and_the_written_stay(self):
        for seed in range(60):
            yard, standing, day = drawn_open_case(seed)
            paper = kind.prices(yard, standing, day)
            plan = kind.kindest(yard, standing, day)[1]
            log, links = yards.go(yard, standing, day)[0], walks.walk(yard, standing, day, 0)[0]
            wide_standing, wide_day = drawn_wide_case(seed)
            handed = (yard, standing, day, paper, plan, log, links, wide_standing, wide_day)
            kept = copy.deepcopy(handed)
            kind.bound(yard, standing, day, paper)
            kind.is_plan(yard, standing, day, plan)
            kind.worth(yard, standing, day, 0)
            again.round_of(yard, (2,) * len(yard), day)
            again.many_days(yard, (2,) * len(yard), day, 10 ** 15)
            again.ring(yard, (2,) * len(yard), day)
            again.all_rings(yard, day, 1)
            wide.wide_go(wide_standing, wide_day)
            wide.wide_harm(wide_standing, wide_day, 0)
            for ask in wide_day:
                wide.keeps(ask, len(wide_standing))
            texts.show_day(day), texts.show_log(log), texts.show_links(links)
            self.assertEqual(handed, kept)

    def test_a_told_list_is_the_askers_own(self):
        for file, name, arguments in FUNCTIONS:
            if KINDS[name] not in (list, tuple):
                continue
            with self.subTest(name=name):
                table = given(name)
                told = getattr(file, name)(**{word: table[word] for word in arguments})
                kept = copy.deepcopy(told)
                lists = lists_within(told)
                self.assertEqual(len({id(row) for row in lists}), len(lists))
                for row in lists:
                    row.clear()
                    row.append("changed")
                self.assertEqual(table, given(name))
                self.assertEqual(getattr(file, name)(**{word: table[word] for word in arguments}), kept)

    def test_a_list_that_was_handed_in_is_changed_behind_an_answer(self):
        for file, name, arguments in FUNCTIONS:
            with self.subTest(name=name):
                table = given(name)
                told = getattr(file, name)(**{word: table[word] for word in arguments})
                kept = copy.deepcopy(told)
                for row in lists_within(list(table.values())):
                    row.clear()
                self.assertEqual(told, kept)

    def test_the_sample_walk_is_what_it_is_held_to_be(self):
        self.assertEqual(walks.walk(YARD, STANDING, DAY, 0), WALK)

    def test_a_day_that_is_changed_behind_an_answer_leaves_it(self):
        day = copy.deepcopy(DAY)
        told = yards.go(YARD, STANDING, day), walks.walk(YARD, STANDING, day, 0)
        kept = copy.deepcopy(told)
        day.clear()
        self.assertEqual(told, kept)

    def test_what_is_told_may_be_handed_in(self):
        _, end = yards.go(YARD, STANDING, DAY)
        self.assertTrue(yards.is_standing(YARD, end))
        self.assertEqual(yards.go(YARD, end, DAY), yards.go(YARD, tuple(list(end)), list(DAY)))
        lesser, greater = pairs.meeting(YARD, STANDING, (1, 0, 0))
        self.assertEqual(pairs.far_apart(YARD, lesser, greater), 3)
        for least in needs.least_for((None,) * 3, DAY, yards.served(YARD, STANDING, DAY)):
            self.assertIsNone(needs.lacks((None,) * 3, least, DAY, yards.served(YARD, STANDING, DAY)))
        for rows in sights.seen(YARD, DAY, [True] * 4, 3):
            for standing in rows:
                self.assertTrue(sights.can_be(YARD, standing, DAY, [True] * 4))
        for ring in again.all_rings(YARD, TURN, 1):
            self.assertEqual(again.ring(YARD, ring[-1], TURN), ring)
        standing, place, day = wide.keeps(WIDE, 3)
        self.assertEqual(wide.wide_harm(standing, day, place), 1)


if __name__ == "__main__":
    unittest.main()
