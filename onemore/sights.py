"""What was seen of a day, and the standings it can have begun with."""

from math import comb

from onemore.errors import NoSight
from onemore.standings import check_count, check_most, each_one_fewer, each_one_more, is_any_in, standings_within
from onemore.standings import tops_of
from onemore.yards import check_day, check_day_from, check_yard, serve


def is_sight(day, thing):
    """Tell of anything whether it is a sight of the day."""
    if not isinstance(thing, list) or len(thing) != len(day):
        return False
    return all([mark is None or isinstance(mark, bool) for mark in thing])


def check_sight(day, sight):
    """Refuse what is no sight of the day."""
    if not is_sight(day, sight):
        raise NoSight()


def is_so(yard, standing, day, sight):
    """Tell whether all is as it was seen where the day begins with the standing."""
    lying = list(standing)
    for ask, mark in zip(day, sight):
        row = serve(yard, lying, ask)
        if mark is not None and mark != (row is not None):
            return False
    return True


def can_be(yard, standing, day, sight):
    """Tell whether all can have been as it was seen, from the standing."""
    check_day_from(yard, standing, day)
    check_sight(day, sight)
    return is_so(yard, standing, day, sight)


def seen(yard, day, sight, things, *, most=5000):
    """Tell the tuple (least, greatest): the bounds of the standings of so many things that show the sight."""
    check_yard(yard)
    check_day(yard, day)
    check_sight(day, sight)
    check_count(things)
    check_most(most, comb(things + len(yard), len(yard)))
    standings = standings_within(tops_of(yard, things), things)
    found = {standing: True for standing in standings if is_so(yard, standing, day, sight)}
    # What lies between two standings found is found, so those one thing away tell of all.
    least = [standing for standing in found if not is_any_in(each_one_fewer(standing), found)]
    greatest = [standing for standing in found if not is_any_in(each_one_more(standing), found)]
    return least, greatest
