"""Standings beside a standing, and standings that are gone through."""

from onemore.errors import NoNumber, TooMany
from onemore.yards import is_count


def places_with_thing(standing):
    """Tell the places where a thing lies, rising."""
    return [place for place, many in enumerate(standing) if many > 0]


def changed(standing, place, by):
    """Tell the standing with so many things more at the place (fewer, where by is below 0)."""
    lying = list(standing)
    lying[place] += by
    return tuple(lying)


def each_one_fewer(standing):
    """Tell the standings with one thing fewer at one place."""
    return [changed(standing, place, -1) for place in places_with_thing(standing)]


def each_one_more(standing):
    """Tell the standings with one thing more at one place, rooms let alone."""
    return [changed(standing, place, 1) for place in range(len(standing))]


def is_any_in(standings, found):
    """Tell whether any of the standings is among those found."""
    return any([standing in found for standing in standings])


def check_number_of_most(most):
    """Refuse a most that is no whole number from 1 on."""
    if not is_count(most) or most == 0:
        raise NoNumber()


def check_most(most, many):
    """Refuse a most that is no whole number from 1 on, then more standings than that."""
    check_number_of_most(most)
    if many > most:
        raise TooMany(most)


def check_count(thing):
    """Refuse what is no whole number from 0 on."""
    if not is_count(thing):
        raise NoNumber()


def tops_of(yard, things):
    """Tell for each place how many of so many things can lie there."""
    return [things if room is None else min(room, things) for room in yard]


def standings_within(tops, things):
    """Tell all standings of at most the top at each place and so many things in all, rising."""
    begun = [()]
    for top in tops:
        begun = [begin + (many,) for begin in begun for many in range(min(top, things - sum(begin)) + 1)]
    return begun


def standings_of(tops, things):
    """Tell all standings of at most the top at each place and of just so many things, rising."""
    # The last place has what the others leave, so that its things need not be counted through.
    begun = standings_within(tops[:-1], things)
    return [begin + (things - sum(begin),) for begin in begun if things - sum(begin) <= tops[-1]]
