"""Yards, their standings and days, and what a day does to a standing."""

from onemore.errors import NoDay, NoOpen, NoStanding, NoYard

MOST_PLACES = 9


def is_whole(thing):
    """Tell of anything whether it is a whole number."""
    # Python counts True and False among the ints; here they are no numbers.
    return isinstance(thing, int) and not isinstance(thing, bool)


def is_count(thing):
    """Tell of anything whether it is a whole number from 0 on."""
    return is_whole(thing) and thing >= 0


def is_count_below(many, thing):
    """Tell of anything whether it is a whole number from 0 on, and less than so many."""
    return is_count(thing) and thing < many


def is_place(yard, thing):
    """Tell of anything whether it is the number of a place of the yard."""
    return is_count_below(len(yard), thing)


def is_number_of_ask(day, thing):
    """Tell of anything whether it is the number of an ask of the day."""
    return is_count_below(len(day), thing)


def is_yard(thing):
    """Tell of anything whether it is a yard."""
    if not isinstance(thing, tuple) or not 1 <= len(thing) <= MOST_PLACES:
        return False
    return all([room is None or is_count(room) for room in thing])


def fits(room, many):
    """Tell whether so many things, of anything, can lie where there is this room."""
    return is_count(many) and (room is None or many <= room)


def is_standing(yard, thing):
    """Tell of anything whether it is a standing of the yard."""
    check_yard(yard)
    if not isinstance(thing, tuple) or len(thing) != len(yard):
        return False
    return all([fits(room, many) for room, many in zip(yard, thing)])


def is_open_standing(thing):
    """Tell of anything whether it is a standing of a yard without bounds, of as many places as it has."""
    if not isinstance(thing, tuple) or not 1 <= len(thing) <= MOST_PLACES:
        return False
    return all([is_count(many) for many in thing])


def are_unlike_places(yard, thing):
    """Tell of anything whether it is a tuple of places of the yard, none of them twice."""
    if not isinstance(thing, tuple):
        return False
    # A set takes only what can be hashed, so the places are judged first.
    return all([is_place(yard, place) for place in thing]) and len(set(thing)) == len(thing)


def is_ask(yard, thing):
    """Tell of anything whether it is an ask of the yard."""
    if not isinstance(thing, tuple) or len(thing) != 2:
        return False
    return are_unlike_places(yard, thing[0]) and are_unlike_places(yard, thing[1])


def is_day(yard, thing):
    """Tell of anything whether it is a day of the yard."""
    check_yard(yard)
    return isinstance(thing, list) and all([is_ask(yard, ask) for ask in thing])


def check_yard(yard):
    """Refuse what is no yard."""
    if not is_yard(yard):
        raise NoYard()


def check_standing(yard, standing):
    """Refuse what is no standing of the yard."""
    if not is_standing(yard, standing):
        raise NoStanding()


def check_open_standing(standing):
    """Refuse what is no standing of any yard without bounds."""
    if not is_open_standing(standing):
        raise NoStanding()


def check_day(yard, day):
    """Refuse what is no day of the yard."""
    if not is_day(yard, day):
        raise NoDay()


def check_open(yard):
    """Refuse a yard that has a bound."""
    if any([room is not None for room in yard]):
        raise NoOpen()


def check_day_from(yard, standing, day):
    """Refuse what is no yard, no standing of it or no day of it, in this order."""
    check_yard(yard)
    check_standing(yard, standing)
    check_day(yard, day)


def has_room(yard, lying, place):
    """Tell whether one more can lie at the place."""
    room = yard[place]
    return room is None or lying[place] < room


def first_with_thing(lying, wants):
    """Tell the first of the wants where a thing lies, None where there is none."""
    for place in wants:
        if lying[place] > 0:
            return place
    return None


def first_with_room(yard, lying, leaves):
    """Tell the first of the leaves that has room, None where there is none."""
    for place in leaves:
        if has_room(yard, lying, place):
            return place
    return None


def serve(yard, lying, ask):
    """Move a thing as the ask does, in the list of what lies where; tell the row of the log."""
    wants, leaves = ask
    place = first_with_thing(lying, wants)
    if place is None:
        return None
    # The thing is gone before it is left: its own place may have room only now.
    lying[place] -= 1
    other = first_with_room(yard, lying, leaves)
    if other is not None:
        lying[other] += 1
    return place, other


def gone(yard, standing, day):
    """Tell the tuple (log, end) as go does, of what has been checked already."""
    lying = list(standing)
    log = []
    for ask in day:
        log.append(serve(yard, lying, ask))
    return log, tuple(lying)


def go(yard, standing, day):
    """Tell the tuple (log, end) of a day that begins with the standing."""
    check_day_from(yard, standing, day)
    return gone(yard, standing, day)


def served(yard, standing, day):
    """Tell the numbers of the asks that are served, rising."""
    log, _ = go(yard, standing, day)
    return [number for number, row in enumerate(log) if row is not None]
