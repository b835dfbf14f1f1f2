"""The kindest: the most asks that any plan serves, with prices as a paper that there are no more.

The net has a node for each place at each moment and two for each ask: a
thing stays, or goes through the ask, which gains one and has room for one.
"""

from onemore.errors import NoPlace, NoPrices
from onemore.flows import END, Net
from onemore.yards import check_day_from, check_open, is_count, is_place, is_whole


def check_open_day_from(yard, standing, day):
    """Refuse what is no yard, no standing of it or no day of it, then a yard that has a bound."""
    check_day_from(yard, standing, day)
    check_open(yard)


def goes_as_planned(lying, ask, row):
    """Move a thing as the row of a plan, of anything, tells; tell whether the ask allows it."""
    wants, leaves = ask
    if not isinstance(row, tuple) or len(row) != 2:
        return False
    place, other = row
    if not is_whole(place) or place not in wants or lying[place] == 0:
        return False
    lying[place] -= 1
    if not leaves:
        return other is None
    if not is_whole(other) or other not in leaves:
        return False
    lying[other] += 1
    return True


def is_plan(yard, standing, day, thing):
    """Tell of anything whether it is a plan that can be gone through."""
    check_open_day_from(yard, standing, day)
    if not isinstance(thing, list) or len(thing) != len(day):
        return False
    lying = list(standing)
    for ask, row in zip(day, thing):
        if row is not None and not goes_as_planned(lying, ask, row):
            return False
    return True


def gain_of(ask, behind):
    """Tell what being served is worth, by the prices behind the ask: one, and the thing where it is best left."""
    return 1 + max([behind[place] for place in ask[1]], default=0)


def alone(places, day):
    """Tell for each moment and place how many asks one thing there can serve where it is the only one."""
    rows = [[0] * places]
    for ask in reversed(day):
        behind = rows[-1]
        gain = gain_of(ask, behind)
        rows.append([max(price, gain) if place in ask[0] else price for place, price in enumerate(behind)])
    rows.reverse()
    return rows


def place_node(places, moment, place):
    """Tell the node of the place at the moment: ahead of so many asks."""
    return END + 1 + moment * places + place


def ask_node(places, day, number):
    """Tell the node into the ask; the one behind it leads out."""
    return place_node(places, len(day) + 1, 0) + 2 * number


def lay_ask(net, places, day, number):
    """Lay the arcs of an ask, from its wants and to its leaves."""
    wants, leaves = day[number]
    node = ask_node(places, day, number)
    for place in wants:
        net.lay(place_node(places, number, place), node, len(day) + 1, 0)
    net.lay(node, node + 1, 1, 1)
    for place in leaves:
        net.lay(node + 1, place_node(places, number + 1, place), len(day) + 1, 0)
    if not leaves:
        net.lay(node + 1, END, len(day) + 1, 0)


def net_of(places, day):
    """Tell the net of the day, with no thing sent."""
    rows = alone(places, day)
    worths = [0]
    for row in rows:
        worths.extend(row)
    for ask, behind in zip(day, rows[1:]):
        gain = gain_of(ask, behind)
        worths.extend([gain, gain - 1])
    net = Net(worths)
    # Each thing sent serves an ask, so an arc with room for one more than asks is never full.
    for place in range(places):
        for moment in range(len(day)):
            begin = place_node(places, moment, place)
            net.lay(begin, begin + places, len(day) + 1, 0)
        net.lay(place_node(places, len(day), place), END, len(day) + 1, 0)
    for number in range(len(day)):
        lay_ask(net, places, day, number)
    return net


def kindest_net(standing, day):
    """Tell the net of the day with all things sent that serve anybody."""
    net = net_of(len(standing), day)
    for place, many in enumerate(standing):
        begin = place_node(len(standing), 0, place)
        # Of more things than asks the last one serves nobody, which the worth is to tell.
        for _ in range(min(many, len(day) + 1)):
            came = net.settle(begin)
            if net.worths[begin] == 0:
                break
            net.send(begin, came)
    return net


def row_of(net, places, day, number):
    """Tell the row of the plan for an ask: None, or the tuple (place, other)."""
    node = ask_node(places, day, number)
    came = net.sent_to(node)
    if not came:
        return None
    left = net.sent_from(node + 1)[0]
    other = None if left == END else left - place_node(places, number + 1, 0)
    return came[0] - place_node(places, number, 0), other


def kindest(yard, standing, day):
    """Tell the tuple (many, plan): the most asks that any plan serves, and one that does."""
    check_open_day_from(yard, standing, day)
    net = kindest_net(standing, day)
    plan = [row_of(net, len(yard), day, number) for number in range(len(day))]
    return len([row for row in plan if row is not None]), plan


def least_fee(ask, ahead, behind):
    """Tell the least fee of an ask that is right with the prices ahead of it and behind it."""
    gain = gain_of(ask, behind)
    return max([gain - ahead[place] for place in ask[0]] + [0])


def are_counts(thing, many):
    """Tell of anything whether it is a list of just so many whole numbers from 0 on."""
    return isinstance(thing, list) and len(thing) == many and all([is_count(number) for number in thing])


def are_prices(yard, day, thing):
    """Tell of anything whether it is prices, right or not."""
    if not isinstance(thing, tuple) or len(thing) != 2:
        return False
    rows, fees = thing
    if not isinstance(rows, list) or len(rows) != len(day) + 1:
        return False
    return all([are_counts(row, len(yard)) for row in rows]) and are_counts(fees, len(day))


def are_right(day, rows, fees):
    """Tell whether prices are right."""
    for ask, ahead, behind, fee in zip(day, rows, rows[1:], fees):
        if any([price < later for price, later in zip(ahead, behind)]) or fee < least_fee(ask, ahead, behind):
            return False
    return True


def bound(yard, standing, day, prices):
    """Tell, of right prices, those ahead of all of the things that lie there, and all fees, together."""
    check_open_day_from(yard, standing, day)
    if not are_prices(yard, day, prices):
        raise NoPrices()
    rows, fees = prices
    if not are_right(day, rows, fees):
        raise NoPrices()
    return sum([many * price for many, price in zip(standing, rows[0])]) + sum(fees)


def prices(yard, standing, day):
    """Tell right prices (rows, fees) whose bound is the most that the kindest serves."""
    check_open_day_from(yard, standing, day)
    places = len(yard)
    worths = kindest_net(standing, day).worths
    begins = [place_node(places, moment, 0) for moment in range(len(day) + 1)]
    rows = [worths[begin:begin + places] for begin in begins]
    fees = [least_fee(ask, ahead, behind) for ask, ahead, behind in zip(day, rows, rows[1:])]
    return rows, fees


def worth(yard, standing, day, place):
    """Tell how many more the kindest serves with one thing more at the place."""
    check_open_day_from(yard, standing, day)
    if not is_place(yard, place):
        raise NoPlace()
    net = kindest_net(standing, day)
    begin = place_node(len(yard), 0, place)
    net.settle(begin)
    return net.worths[begin]
