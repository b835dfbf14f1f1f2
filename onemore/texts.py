"""Yards, standings, days, logs and links as texts, and back; each has one writing."""

from onemore.errors import NoLinks, NoLog, NoText
from onemore.walks import ANEW, BESIDE, INSTEAD
from onemore.yards import MOST_PLACES, check_day, check_open_standing, check_yard, is_count, is_count_below, is_day
from onemore.yards import is_open_standing, is_yard

# A day tells nothing of its yard, so it is written as one of the widest.
WIDEST = (None, None, None, None, None, None, None, None, None)

FIGURES = "0123456789"
NO_BOUND = "-"
NO_ASKS = "."
WITHOUT = "."
CARRIED_OFF = "x"


def is_any_place(thing):
    """Tell of anything whether it is the number of a place of the widest yard."""
    return is_count_below(MOST_PLACES, thing)


def is_left(thing):
    """Tell of anything whether it is where a thing can be left: a place, or None."""
    return thing is None or is_any_place(thing)


def is_row(thing):
    """Tell of anything whether it is a row of a log."""
    if thing is None:
        return True
    return isinstance(thing, tuple) and len(thing) == 2 and is_any_place(thing[0]) and is_left(thing[1])


def is_link(thing):
    """Tell of anything whether it is a link."""
    if not isinstance(thing, tuple) or len(thing) != 4:
        return False
    ask, word, place, other = thing
    if not is_count(ask) or not isinstance(word, str) or not is_any_place(place):
        return False
    if word == INSTEAD:
        return is_any_place(other)
    return word in (ANEW, BESIDE) and is_left(other)


def number_text(number):
    """Write a number."""
    # Figure by figure, as Python's own writing and reading refuse a number of very many figures.
    figures = []
    while number > 9:
        number, last = divmod(number, 10)
        figures.append(FIGURES[last])
    figures.append(FIGURES[number])
    figures.reverse()
    return "".join(figures)


def numbers_text(numbers):
    """Write numbers with blanks between."""
    return " ".join([number_text(number) for number in numbers])


def room_text(room):
    """Write a room."""
    return NO_BOUND if room is None else number_text(room)


def ask_text(ask):
    """Write an ask."""
    wants, leaves = ask
    return numbers_text(wants) + ">" + numbers_text(leaves)


def left_text(other):
    """Write where a thing is left."""
    return CARRIED_OFF if other is None else number_text(other)


def row_text(row):
    """Write a row of a log."""
    if row is None:
        return WITHOUT
    place, other = row
    return number_text(place) + ">" + left_text(other)


def link_text(link):
    """Write a link."""
    ask, word, place, other = link
    return ":".join([number_text(ask), word, number_text(place), left_text(other)])


def show_yard(yard):
    """Write a yard."""
    check_yard(yard)
    return " ".join([room_text(room) for room in yard])


def show_standing(standing):
    """Write a standing."""
    check_open_standing(standing)
    return numbers_text(standing)


def show_day(day):
    """Write a day."""
    check_day(WIDEST, day)
    if not day:
        return NO_ASKS
    return ";".join([ask_text(ask) for ask in day])


def show_log(log):
    """Write a log."""
    if not isinstance(log, list) or not all([is_row(row) for row in log]):
        raise NoLog()
    return " ".join([row_text(row) for row in log])


def show_links(links):
    """Write links."""
    if not isinstance(links, list) or not all([is_link(link) for link in links]):
        raise NoLinks()
    return ";".join([link_text(link) for link in links])


def words_of(text, between):
    """Tell the words of a text, of anything; none of the empty one."""
    if not isinstance(text, str):
        raise NoText()
    return text.split(between) if text else []


def parts_of(word, between, many):
    """Tell the parts of a word, refused where they are not so many."""
    parts = word.split(between)
    if len(parts) != many:
        raise NoText()
    return parts


def number_of(word):
    """Tell the number that a word writes."""
    if not word or not all([figure in FIGURES for figure in word]):
        raise NoText()
    if word[0] == "0" and word != "0":
        raise NoText()
    number = 0
    for figure in word:
        number = number * 10 + FIGURES.index(figure)
    return number


def place_of(word):
    """Tell the place that a word writes."""
    place = number_of(word)
    if not is_any_place(place):
        raise NoText()
    return place


def room_of(word):
    """Tell the room that a word writes."""
    return None if word == NO_BOUND else number_of(word)


def left_of(word):
    """Tell where a thing is left, as a word writes it."""
    return None if word == CARRIED_OFF else place_of(word)


def places_of(text):
    """Tell the places that a part of an ask writes, places alike let pass."""
    return tuple([place_of(word) for word in words_of(text, " ")])


def ask_of(word):
    """Tell the ask that a word writes, places alike let pass."""
    wants, leaves = parts_of(word, ">", 2)
    return places_of(wants), places_of(leaves)


def row_of(word):
    """Tell the row of a log that a word writes."""
    if word == WITHOUT:
        return None
    place, other = parts_of(word, ">", 2)
    return place_of(place), left_of(other)


def link_of(word):
    """Tell the link that a word writes."""
    ask, kind, place, other = parts_of(word, ":", 4)
    link = (number_of(ask), kind, place_of(place), left_of(other))
    if not is_link(link):
        raise NoText()
    return link


def read_yard(text):
    """Tell the yard that a text writes."""
    yard = tuple([room_of(word) for word in words_of(text, " ")])
    if not is_yard(yard):
        raise NoText()
    return yard


def read_standing(text):
    """Tell the standing that a text writes."""
    standing = tuple([number_of(word) for word in words_of(text, " ")])
    if not is_open_standing(standing):
        raise NoText()
    return standing


def read_day(text):
    """Tell the day that a text writes."""
    words = words_of(text, ";")
    if not words:
        raise NoText()
    if words == [NO_ASKS]:
        return []
    day = [ask_of(word) for word in words]
    if not is_day(WIDEST, day):
        raise NoText()
    return day


def read_log(text):
    """Tell the log that a text writes."""
    return [row_of(word) for word in words_of(text, " ")]


def read_links(text):
    """Tell the links that a text writes."""
    return [link_of(word) for word in words_of(text, ";")]
