"""What one thing more changes: one walk, told by the world that lacks it.

The lesser world is the day as it goes from the standing, the greater world
the same with one thing more. They differ by one thing at one place, the
spot, or, once it is carried off (the spot is None), by none.
"""

from onemore.errors import NoPlace, NoRoom
from onemore.standings import changed, places_with_thing
from onemore.yards import check_day_from, first_with_room, first_with_thing, has_room, is_place, is_whole

INSTEAD = "instead"
ANEW = "anew"
BESIDE = "beside"


def check_one_more(yard, standing, day, place):
    """Refuse what is handed in wrong, or a place where one more cannot lie."""
    check_day_from(yard, standing, day)
    if not is_place(yard, place):
        raise NoPlace()
    if not has_room(yard, standing, place):
        raise NoRoom()


def with_one_more(lying, spot):
    """Tell what lies where in the greater world."""
    greater = list(lying)
    if spot is not None:
        greater[spot] += 1
    return greater


def walk_leaving(yard, lying, number, leaves, spot):
    """Leave, in the lesser world, what an ask took in both; tell (links, spot)."""
    place = first_with_room(yard, lying, leaves)
    other = first_with_room(yard, with_one_more(lying, spot), leaves)
    if place is not None:
        lying[place] += 1
    if other == place:
        return [], spot
    return [(number, BESIDE, place, other)], other


def walk_ask(yard, lying, number, ask, spot):
    """Go through one ask in the lesser world; tell (links, spot): its links, and the spot behind it."""
    wants, leaves = ask
    other = first_with_thing(lying, wants)
    place = first_with_thing(with_one_more(lying, spot), wants)
    if place is None:
        return [], spot
    if other is None:
        # With its one thing more taken, the greater world is just the lesser one.
        left = first_with_room(yard, lying, leaves)
        return [(number, ANEW, place, left)], left
    lying[other] -= 1
    if place == other:
        return walk_leaving(yard, lying, number, leaves, spot)
    # The leaving is judged behind the taking, with the difference where the lesser world took.
    links, spot = walk_leaving(yard, lying, number, leaves, other)
    return [(number, INSTEAD, place, other)] + links, spot


def walk_day(yard, standing, day, place):
    """Tell the tuple (links, spots): all links of the day, and the spot at each moment."""
    check_one_more(yard, standing, day, place)
    lying = list(standing)
    spot = place
    links = []
    spots = [spot]
    for number, ask in enumerate(day):
        more, spot = walk_ask(yard, lying, number, ask, spot)
        links.extend(more)
        spots.append(spot)
    return links, spots


def walk(yard, standing, day, place):
    """Tell the tuple (links, end): what one thing more at the place changes."""
    links, spots = walk_day(yard, standing, day, place)
    return links, spots[-1]


def gained(yard, standing, day, place):
    """Tell the numbers of the asks that one thing more at the place serves anew, rising."""
    links, _ = walk_day(yard, standing, day, place)
    return [link[0] for link in links if link[1] == ANEW]


def differences(yard, standing, day, place):
    """Tell where the difference lies at each moment, from ahead of the day to behind it."""
    _, spots = walk_day(yard, standing, day, place)
    return spots


def are_same(things, told):
    """Tell whether the things of a list or a tuple are just those that were told."""
    if len(things) != len(told):
        return False
    return all([is_same(thing, one) for thing, one in zip(things, told)])


def is_same(thing, told):
    """Tell of anything whether it is what was told, and of its kind throughout."""
    # A plain == would take True for 1, and 1.0 too.
    if told is None:
        return thing is None
    if isinstance(told, str):
        return isinstance(thing, str) and thing == told
    if isinstance(told, tuple):
        return isinstance(thing, tuple) and are_same(thing, told)
    if isinstance(told, list):
        return isinstance(thing, list) and are_same(thing, told)
    return is_whole(thing) and thing == told


def shows(yard, standing, day, place, thing):
    """Tell of anything whether it is the walk of one thing more at the place."""
    return is_same(thing, walk(yard, standing, day, place))


def spare(yard, standing, day):
    """Tell the places where a thing lies of which one could be taken away, rising."""
    check_day_from(yard, standing, day)
    places = places_with_thing(standing)
    # One fewer serves the same asks just where putting it back serves none anew.
    return [place for place in places if not gained(yard, changed(standing, place, -1), day, place)]
