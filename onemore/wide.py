"""Wider asks, of which each wanted place has a leaving place of its own; some break the promise."""

from onemore.errors import NoNumber, NoPlace, NoWide
from onemore.standings import changed
from onemore.yards import MOST_PLACES, check_open_standing, is_count_below, is_place, is_whole


def is_step(many, thing):
    """Tell of anything whether it is a tuple (place, other) of two of so many places."""
    if not isinstance(thing, tuple) or len(thing) != 2:
        return False
    return is_count_below(many, thing[0]) and is_count_below(many, thing[1])


def is_wide(many, thing):
    """Tell of anything whether it is a wide ask of so many places."""
    if not isinstance(thing, list) or not all([is_step(many, step) for step in thing]):
        return False
    return len({place for place, _ in thing}) == len(thing)


def check_wide_day(standing, day):
    """Refuse what is no standing without bounds, or no list of wide asks of its places."""
    check_open_standing(standing)
    if not isinstance(day, list) or not all([is_wide(len(standing), ask) for ask in day]):
        raise NoWide()


def wide_serve(lying, ask):
    """Move a thing as the wide ask does, in the list of what lies where; tell the row of the log."""
    for place, other in ask:
        if lying[place] > 0:
            lying[place] -= 1
            lying[other] += 1
            return place, other
    return None


def wide_go(standing, day):
    """Tell the tuple (log, end) of a day of wide asks that begins with the standing."""
    check_wide_day(standing, day)
    lying = list(standing)
    log = []
    for ask in day:
        log.append(wide_serve(lying, ask))
    return log, tuple(lying)


def wide_harm(standing, day, place):
    """Tell the first ask that is served, and is not with one thing more at the place; None where there is none."""
    check_wide_day(standing, day)
    if not is_place(standing, place):
        raise NoPlace()
    lesser = list(standing)
    greater = list(changed(standing, place, 1))
    for number, ask in enumerate(day):
        less = wide_serve(lesser, ask)
        more = wide_serve(greater, ask)
        if less is not None and more is None:
            return number
    return None


def first_breaking(ask):
    """Tell the tuple (place, behind, other) of the first two places that break the promise, None where none do.

    Place is the earlier one, behind the later one, other where the later one's thing is left.
    """
    for number, (place, left) in enumerate(ask):
        for behind, other in ask[number + 1:]:
            if other != left and other != behind:
                return place, behind, other
    return None


def keeps(ask, many):
    """Tell None where a wide ask of so many places keeps the promise, else (standing, place, day) that show it not."""
    if not is_whole(many) or not 1 <= many <= MOST_PLACES:
        raise NoNumber()
    if not is_wide(many, ask):
        raise NoWide()
    breaking = first_breaking(ask)
    if breaking is None:
        return None
    place, behind, other = breaking
    # The ask is copied, as the day that is told is the asker's own.
    return changed((0,) * many, behind, 1), place, [list(ask), [(other, other)]]
