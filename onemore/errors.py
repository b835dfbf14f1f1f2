"""The refusals of the program, all of them straight under YardError."""


class YardError(ValueError):
    """Any refusal."""


class NoYard(YardError):
    """What was handed in as a yard is none."""


class NoStanding(YardError):
    """What was handed in as a standing is none of the yard."""


class NoDay(YardError):
    """What was handed in as a day is none of the yard."""


class NoPlace(YardError):
    """What was handed in as the number of a place is none of the yard."""


class NoRoom(YardError):
    """One more is to lie at a place that has no room."""


class NoAsk(YardError):
    """What was handed in as the number of an ask, or as a list of them, is none of the day."""


class NoOpen(YardError):
    """The yard has a bound where only yards without bounds are answered for."""


class NoSight(YardError):
    """What was handed in as a sight is none of the day."""


class NoPrices(YardError):
    """What was handed in as prices is none, or they are not right."""


class NoNumber(YardError):
    """What was handed in as a number is none of those that may be."""


class NoWide(YardError):
    """What was handed in as a wide ask, or as a day of them, is none."""


class NoLog(YardError):
    """What was handed in as a log is none."""


class NoLinks(YardError):
    """What was handed in as links is none."""


class TooMany(YardError):
    """More would be gone through than the most that was allowed; many tells that most."""

    def __init__(self, many):
        self.many = many


class NoText(YardError):
    """What was handed in as a text writes nothing."""
