"""Two standings of one yard: how far they are apart, and how they come together."""

from onemore.errors import NoAsk
from onemore.yards import check_day, check_day_from, check_standing, check_yard, is_number_of_ask, serve

# An ask that wants nothing goes without, and moves nothing.
IDLE = ((), ())


def check_pair(yard, one, other):
    """Refuse what is no yard, or no standing of it: the one, then the other."""
    check_yard(yard)
    check_standing(yard, one)
    check_standing(yard, other)


def distance(one, other):
    """Tell how far two standings are apart, over all places together."""
    return sum([abs(many - more) for many, more in zip(one, other)])


def moments(yard, standing, day):
    """Tell the standings from ahead of the day to behind it."""
    lying = list(standing)
    told = [standing]
    for ask in day:
        serve(yard, lying, ask)
        told.append(tuple(lying))
    return told


def distances(first, second):
    """Tell how far two worlds are apart, moment by moment."""
    return [distance(one, other) for one, other in zip(first, second)]


def far_apart(yard, one, other):
    """Tell how far two standings are apart."""
    check_pair(yard, one, other)
    return distance(one, other)


def together(yard, one, other, day):
    """Tell how far two standings are apart, ahead of the day and behind each ask."""
    check_pair(yard, one, other)
    check_day(yard, day)
    return distances(moments(yard, one, day), moments(yard, other, day))


def met(yard, one, other, day):
    """Tell behind how many asks two standings are the same first, None where they never are."""
    apart = together(yard, one, other, day)
    if 0 in apart:
        return apart.index(0)
    return None


def left_out(yard, standing, day, number):
    """Tell how far the worlds with and without an ask are apart, ahead of the day and behind each ask."""
    check_day_from(yard, standing, day)
    if not is_number_of_ask(day, number):
        raise NoAsk()
    # An idle ask in its stead keeps the moments of both worlds side by side.
    without = day[:number] + [IDLE] + day[number + 1:]
    return distances(moments(yard, standing, day), moments(yard, standing, without))


def meeting(yard, one, other):
    """Tell the tuple (lesser, greater): at each place the lesser, and the greater, of both."""
    check_pair(yard, one, other)
    lesser = tuple([min(many, more) for many, more in zip(one, other)])
    greater = tuple([max(many, more) for many, more in zip(one, other)])
    return lesser, greater
