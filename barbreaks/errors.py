"""The errors of the program. The arguments of each are also its attributes."""


class BarbreaksError(ValueError):
    """The base class of all errors of the program."""


class BadName(BarbreaksError):
    """A text that should be a name is not one."""

    def __init__(self, name):
        self.name = name


class BadNumber(BarbreaksError):
    """A number is not in its bounds."""

    def __init__(self, number):
        self.number = number


class BadText(BarbreaksError):
    """A text is not written as it should be."""

    def __init__(self, text):
        self.text = text


class BadSpan(BarbreaksError):
    """Two bounds do not make a span, or not one that is allowed."""

    def __init__(self, low, high):
        self.low = low
        self.high = high


class Apart(BarbreaksError):
    """Two sets have nothing in common."""


class NoSpans(BarbreaksError):
    """No span was given where at least one is needed."""


class TooMany(BarbreaksError):
    """There are more things of a sort than the most that are allowed."""

    def __init__(self, what, most):
        self.what = what
        self.most = most


class Twice(BarbreaksError):
    """A name stands twice where it may stand once."""

    def __init__(self, name):
        self.name = name


class Unknown(BarbreaksError):
    """Nothing that is meant has this name."""

    def __init__(self, name):
        self.name = name


class Missing(BarbreaksError):
    """A name is missing."""

    def __init__(self, name):
        self.name = name


class BadSize(BarbreaksError):
    """A list has the wrong number of entries."""

    def __init__(self, count):
        self.count = count


class BadRow(BarbreaksError):
    """The lags of the item of this name do not fit."""

    def __init__(self, name):
        self.name = name


class BadEvent(BarbreaksError):
    """The order has no such event."""

    def __init__(self, event):
        self.event = event


class BadWord(BarbreaksError):
    """A word is not one of those that are known here."""

    def __init__(self, word):
        self.word = word


class Outside(BarbreaksError):
    """A value is outside of the span of the lag of this word."""

    def __init__(self, word):
        self.word = word


class NoPoint(BarbreaksError):
    """The order has no such point."""

    def __init__(self, point):
        self.point = point


class NotReached(BarbreaksError):
    """The point never comes at this moment."""

    def __init__(self, point, moment):
        self.point = point
        self.moment = moment


class BadEnd(BarbreaksError):
    """The end at this index does not make a band."""

    def __init__(self, index):
        self.index = index


class NoRoom(BarbreaksError):
    """The greatest counts, so many of them, are over what a band can hold."""

    def __init__(self, many, over):
        self.many = many
        self.over = over


class Jammed(BarbreaksError):
    """No sheet holds; the jam shows it."""

    def __init__(self, jam):
        self.jam = jam


class Troubled(BarbreaksError):
    """No plan holds; the trouble shows it."""

    def __init__(self, trouble):
        self.trouble = trouble


class BadLine(BarbreaksError):
    """The line of this number is faulty."""

    def __init__(self, number):
        self.number = number


class Refused(BarbreaksError):
    """The base class of the errors with which a desk refuses a deed."""


class Unsafe(Refused):
    """A plan is not safe; the breach shows it."""

    def __init__(self, breach):
        self.breach = breach


class OnAir(Refused):
    """An item is still on the air."""

    def __init__(self, name):
        self.name = name


class OffAir(Refused):
    """No item is on the air."""


class NoItem(Refused):
    """All items have ended."""


class NotYet(Refused):
    """What is told of this item has not come yet."""

    def __init__(self, name):
        self.name = name


class Told(Refused):
    """What is told of this item was told already."""

    def __init__(self, name):
        self.name = name


class Begun(Refused):
    """It is too late to change this item."""

    def __init__(self, name):
        self.name = name


class NothingToUndo(Refused):
    """There is no deed to take back."""
