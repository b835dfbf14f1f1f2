"""The same day again and again: the standings go round, and which rounds there are."""

from math import comb

from onemore.errors import TooMany
from onemore.standings import check_count, check_most, check_number_of_most, standings_of, tops_of
from onemore.yards import check_day, check_day_from, check_yard, gone


def go_on(yard, standing, day, days):
    """Go through so many days, or until a standing comes again.

    Tell the standings and how many asks were served in all, from ahead of the
    days to behind each; and which of the standings the last one is again,
    None where none came again.
    """
    standings = [standing]
    counts = [0]
    numbers = {standing: 0}
    while len(standings) <= days:
        log, end = gone(yard, standings[-1], day)
        counts.append(counts[-1] + len([row for row in log if row is not None]))
        standings.append(end)
        if end in numbers:
            return standings, counts, numbers[end]
        numbers[end] = len(standings) - 1
    return standings, counts, None


def until_again(yard, standing, day, most):
    """Tell the tuple (standings, first): until one comes again, and the number of days behind which it lay first."""
    check_day_from(yard, standing, day)
    check_number_of_most(most)
    standings, _, first = go_on(yard, standing, day, most)
    if first is None:
        raise TooMany(most)
    return standings, first


def round_of(yard, standing, day, *, most=5000):
    """Tell the tuple (first, length): behind how many days a standing comes again, and after how many days."""
    standings, first = until_again(yard, standing, day, most)
    return first, len(standings) - 1 - first


def many_days(yard, standing, day, days, *, most=5000):
    """Tell the tuple (end, served) behind so many days: the standing, and how many asks were served in all."""
    check_day_from(yard, standing, day)
    check_count(days)
    check_number_of_most(most)
    standings, counts, first = go_on(yard, standing, day, min(days, most))
    if first is None:
        if days > most:
            raise TooMany(most)
        return standings[-1], counts[-1]
    length = len(standings) - 1 - first
    rounds = (days - first) // length
    # Behind all whole rounds the days go on as they did behind the first ones.
    last = days - rounds * length
    return standings[last], counts[last] + rounds * (counts[-1] - counts[first])


def from_least(standings):
    """Tell the standings of a round from the least one of them on."""
    at = standings.index(min(standings))
    return standings[at:] + standings[:at]


def ring(yard, standing, day, *, most=5000):
    """Tell the standings of the round that a standing comes to, from the least one, in the order of the days."""
    standings, first = until_again(yard, standing, day, most)
    return from_least(standings[first:-1])


def rings_of(ends):
    """Tell the rings of what is handed in as the standing behind the day of each standing, by their first ones."""
    rings = []
    passed = {}
    for begin in ends:
        trail = []
        standing = begin
        # An end that has none of its own has lost things, so that none of the trail comes again.
        while standing in ends and standing not in passed:
            passed[standing] = begin
            trail.append(standing)
            standing = ends[standing]
        if standing in ends and passed[standing] == begin:
            rings.append(from_least(trail[trail.index(standing):]))
    return sorted(rings)


def all_rings(yard, day, things, *, most=5000):
    """Tell all rounds of standings of just so many things, as rings, by their first ones."""
    check_yard(yard)
    check_day(yard, day)
    check_count(things)
    check_most(most, comb(things + len(yard) - 1, len(yard) - 1))
    standings = standings_of(tops_of(yard, things), things)
    return rings_of({standing: gone(yard, standing, day)[1] for standing in standings})
