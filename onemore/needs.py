"""Which standings serve told asks: just those above one of a few least ones."""

from onemore.errors import NoAsk
from onemore.standings import changed, check_most, each_one_fewer, is_any_in, places_with_thing, standings_within
from onemore.yards import check_day, check_day_from, check_open, check_yard, is_number_of_ask, serve


def are_rising_asks(day, thing):
    """Tell of anything whether it is a list of numbers of asks of the day, rising, unlike."""
    if not isinstance(thing, list) or not all([is_number_of_ask(day, number) for number in thing]):
        return False
    return all([number < behind for number, behind in zip(thing, thing[1:])])


def check_some(day, some):
    """Refuse what is no list of numbers of asks of the day, rising, unlike."""
    if not are_rising_asks(day, some):
        raise NoAsk()


def first_without(yard, standing, day, some):
    """Tell the first ask of some that goes without, None where all of them are served."""
    lying = list(standing)
    begin = 0
    for number in some:
        for ask in day[begin:number]:
            serve(yard, lying, ask)
        if serve(yard, lying, day[number]) is None:
            return number
        begin = number + 1
    return None


def wanted(yard, day):
    """Tell for each place how many asks of the day want it."""
    return [len([ask for ask in day if place in ask[0]]) for place in range(len(yard))]


def how_many_within(tops):
    """Tell how many standings have at each place from 0 to the top."""
    many = 1
    for top in tops:
        many = many * (top + 1)
    return many


def least_within(yard, day, some, tops):
    """Tell the least standings that serve all asks of some, of those up to the tops, rising."""
    serving = {}
    least = []
    for standing in standings_within(tops, sum(tops)):
        # Whoever is served with one fewer is served still, so the day need not be gone through.
        if is_any_in(each_one_fewer(standing), serving):
            serving[standing] = True
        elif first_without(yard, standing, day, some) is None:
            serving[standing] = True
            least.append(standing)
    return least


def least_for(yard, day, some, *, most=5000):
    """Tell the least standings of a yard without bounds that serve all asks of some, rising."""
    check_yard(yard)
    check_day(yard, day)
    check_open(yard)
    check_some(day, some)
    tops = wanted(yard, day)
    check_most(most, how_many_within(tops))
    return least_within(yard, day, some, tops)


def lacks(yard, standing, day, some):
    """Tell the first ask of some that goes without, None where all of them are served."""
    check_day_from(yard, standing, day)
    check_some(day, some)
    return first_without(yard, standing, day, some)


def one_fewer(yard, standing, day, some):
    """Tell (place, ask) for each place with a thing: who of some lacks it first, None where nobody does."""
    check_day_from(yard, standing, day)
    check_some(day, some)
    places = places_with_thing(standing)
    return [(place, first_without(yard, changed(standing, place, -1), day, some)) for place in places]
