"""Yards, standings, days and wrong things that several tests go through."""

from itertools import combinations, permutations, product
from random import Random

from onemore.errors import YardError
from onemore.yards import go

BIG = 10 ** 15 - 1


class Odd:
    """A thing of no kind that the document tells of; it claims to equal everything."""

    def __eq__(self, other):
        return True

    __hash__ = None


def nested(depth, make):
    """A thing within one another so many times, by a maker of a list, a tuple or a dict."""
    thing = make()
    for _ in range(depth):
        thing = make([thing])
    return thing


def wrong_things():
    """Things that are no yard, no standing and no day of any yard of two places."""
    return [
        None, True, False, 0, 1, -1, 2, 1.0, 1.5, float("nan"), "", "12", b"", b"12", {}, {0: 1, 1: 1},
        set(), {1, 2}, frozenset([1, 2]), range(2), iter([1, 2]), object, len, Odd(), 3 + 0j,
        [1, 1], (True, 1), (1, False), (1.0, 1), ("1", 1), (b"1", 1), (-1, 1), (1, -1), ((1,), 1), ([1], 1),
        ({}, 1), (Odd(), 1), (), ((),), nested(40, list), nested(40, lambda xs=(): tuple(xs)),
        (1, 1, 1, 1, 1, 1, 1, 1, 1, 1), [None], [0], [True], [[]], [()], [((),)], [((), (), ())],
        [[(), ()]], [([], ())], [((), [])], [((0, 0), ())], [((), (1, 0, 1))], [((2,), ())], [((), (2,))],
        [((-1,), ())], [((), (-1,))], [((True,), ())], [((), (False,))], [((0, True), ())], [((1.0,), ())],
        [(("0",), ())], [((None,), ())], [(((0,),), ())], [(([],), ())], [(({},), ())], [((0,), ()), None],
        [((), None)], [(None, ())], [(0, 1)], [("", "")], [({0}, {1})], [((Odd(),), ())],
        (((0,), (1,)),), {"day": []}, [nested(38, lambda xs=(): tuple(xs))],
    ]


def wrong_numbers():
    """Things that are no whole number from 0 on."""
    return [
        None, True, False, -1, -BIG, 0.0, 1.0, 2.5, float("nan"), float("inf"), "", "0", b"0", (), (0,), [], [0], {},
        {0: 0}, {0}, range(1), int, Odd(), 0j, nested(40, list),
    ]


def refusal(function, *arguments, **named):
    """The class of what is raised, None where nothing is."""
    try:
        function(*arguments, **named)
    except YardError as error:
        return type(error)
    return None


def too_many(function, *arguments, **named):
    """The field of the TooMany that is raised, None where nothing is."""
    try:
        function(*arguments, **named)
    except YardError as error:
        return error.many
    return None


def small_yards():
    """All yards of one and two places with rooms 0, 1, 2 and none."""
    rooms = (0, 1, 2, None)
    return [yard for places in (1, 2) for yard in product(rooms, repeat=places)]


def small_standings(yard):
    """All standings of a yard with two things at most at each place."""
    return list(product(*[range(3 if room is None else min(room, 2) + 1) for room in yard]))


def some_places(places):
    """All tuples of unlike places."""
    return [row for many in range(places + 1) for row in permutations(range(places), many)]


def all_asks(places):
    """All asks of a yard of so many places."""
    return list(product(some_places(places), repeat=2))


def drawn_case(seed):
    """A yard of one to nine places, a standing and a day of none to sixty asks, the same for each seed."""
    draw = Random(seed)
    places = draw.randint(1, 9)
    rooms = draw.choice([(1,), (0, 1), (0, 1, 2, 3), (1, 2, None), (0, 1, 5, None), (None,), (1, BIG, None)])
    yard = tuple(draw.choice(rooms) for _ in range(places))
    low, top = draw.choice([(0, 0), (0, 1), (1, 1), (0, 2), (1, 4), (0, BIG)])
    tops = [top if room is None else min(room, top) for room in yard]
    standing = tuple(draw.randint(min(low, most), most) for most in tops)
    asks = draw.choice([0, 1, 5, 20, 60])
    # Where little is carried off the yard stays full, and the leaving is what changes.
    fewest = draw.choice([0, places])
    return yard, standing, [drawn_ask(draw, places, fewest) for _ in range(asks)]


def drawn_small_case(seed, rooms):
    """A yard of one to three places with such rooms, and a day of none to five asks, the same for each seed."""
    draw = Random(seed)
    places = draw.randint(1, 3)
    yard = tuple(draw.choice(rooms) for _ in range(places))
    fewest = draw.choice([0, places])
    return yard, [drawn_ask(draw, places, fewest) for _ in range(draw.randint(0, 5))]


def drawn_ask(draw, places, fewest):
    """An ask of a yard of so many places, that leaves at one of so many places at the fewest."""
    wants = draw.sample(range(places), draw.randint(0, min(places, 4)))
    leaves = draw.sample(range(places), draw.randint(fewest, places))
    return tuple(wants), tuple(leaves)


def drawn_open_case(seed):
    """A yard of one to nine places without bounds, a standing and a day, the same for each seed."""
    yard, standing, day = drawn_case(seed)
    return (None,) * len(yard), standing, day


def drawn_wide_ask(draw, places):
    """A wide ask of so many places."""
    return [(place, draw.randrange(places)) for place in draw.sample(range(places), draw.randint(0, places))]


def drawn_wide_case(seed):
    """A standing of one to nine places and a day of wide asks, the same for each seed."""
    draw = Random(seed)
    places = draw.randint(1, 9)
    top = draw.choice([0, 1, 2, BIG])
    standing = tuple(draw.randint(0, top) for _ in range(places))
    return standing, [drawn_wide_ask(draw, places) for _ in range(draw.choice([0, 1, 5, 20, 60]))]


def places_with_room(yard, standing):
    """The places where one thing more can lie."""
    return [place for place, room in enumerate(yard) if room is None or standing[place] < room]


def plus(standing, place, many=1):
    """The standing with so many more at the place."""
    return standing[:place] + (standing[place] + many,) + standing[place + 1:]


def moments(yard, standing, day):
    """The standings from ahead of the day to behind it, each ask a day of its own."""
    told = [standing]
    for ask in day:
        told.append(go(yard, told[-1], [ask])[1])
    return told


def nowhere_more(one, other):
    """Whether the one standing has nowhere more than the other."""
    return all(many <= more for many, more in zip(one, other))


def least_of(standings):
    """Those of which none has nowhere more than another one and fewer somewhere, rising."""
    return sorted(one for one in standings if not any(nowhere_more(less, one) for less in standings if less != one))


def greatest_of(standings):
    """Those of which none has nowhere fewer than another one and more somewhere, rising."""
    return sorted(one for one in standings if not any(nowhere_more(one, more) for more in standings if more != one))


def risings(numbers):
    """All lists of some of the numbers, rising, unlike."""
    return [list(row) for many in range(len(numbers) + 1) for row in combinations(numbers, many)]


def lists_within(thing):
    """All lists within what was told, itself too, each as often as it stands there."""
    if not isinstance(thing, (list, tuple)):
        return []
    return [thing] * isinstance(thing, list) + [row for part in thing for row in lists_within(part)]
