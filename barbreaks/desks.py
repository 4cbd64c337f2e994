"""The desk: it runs the day of a plan."""

from barbreaks.courses import next_moment, step_span
from barbreaks.distances import shift_of
from barbreaks.errors import (BadWord, BarbreaksError, Begun, NoItem, NotYet, NothingToUndo, OffAir,
                              OnAir, Outside, Told, Unknown, Unsafe)
from barbreaks.events import point_of
from barbreaks.items import Break
from barbreaks.judging import margins, weakest
from barbreaks.outlooks import Outlook

# How many arguments each deed can have.
DEEDS = {
    "press": (1,), "finish": (0, 1), "walked": (2,), "packed": (2,), "expect": (4,), "put": (3,),
    "room": (2,), "staff": (2,), "retime": (2,), "swap": (2,), "space": (1,),
}


def check_safe(plan, outlook):
    """Refuses a plan that some row of the outlook breaks."""
    breach = weakest(plan, outlook)
    if breach is not None:
        raise Unsafe(breach)


def check_piece(order, name):
    """Refuses a name that no piece has."""
    if name not in order.piece_names():
        raise Unknown(name)


class Desk:
    """What is known of the day of a plan, and what was done and told at the desk.

    No list that the desk holds is ever changed: each deed gives the desk new ones.
    So a state that is kept for `undo` stays as it was.
    """

    def __init__(self, plan):
        outlook = Outlook(plan.order)
        check_safe(plan, outlook)
        self.plan = plan
        self.outlook = outlook
        self.point = 0
        self.moments = [plan.order.opens]
        self.deeds = []
        self._told = []
        self._past = []

    def __iter__(self):
        return iter(self.deeds)

    def __getitem__(self, at):
        return self.plan.sheet[at]

    def __setitem__(self, at, worth):
        name, place = at
        self.put(name, place, worth)

    @property
    def spacing(self):
        """The distance of spots of one kind."""
        return self.plan.order.house.apart

    @spacing.setter
    def spacing(self, value):
        self.space(value)

    def press(self, delay):
        """Starts the next item; returns the moment of its begin."""
        order = self.plan.order
        if self.point % 2 == 1:
            raise OnAir(order.lineup[self.point // 2].name)
        if self.point == order.points - 1:
            raise NoItem()
        name = order.lineup[self.point // 2].name
        outlook = self.outlook.narrowed(name, "delay", delay, delay)
        return self._advance(("press", delay), outlook, delay)

    def finish(self, length=None):
        """Ends the item that is on the air; returns the moment of its end."""
        if self.point % 2 == 0:
            raise OffAir()
        span = step_span(self.outlook, self.point)
        ticks = span.low if length is None else length
        if ticks not in span:
            raise Outside("length")
        item = self.plan.order.lineup[self.point // 2]
        outlook = self.outlook
        if not isinstance(item, Break):
            outlook = outlook.narrowed(item.name, "length", ticks, ticks)
        return self._advance(("finish", ticks), outlook, ticks)

    def walked(self, name, ticks):
        """Tells how long the crew of a piece walked; returns the moment at which it entered."""
        return self._tell(("walked", name, ticks), "walk", ("enter", name))

    def packed(self, name, ticks):
        """Tells how long the crew of a piece packed; returns the moment at which it was out."""
        return self._tell(("packed", name, ticks), "pack", ("out", name))

    def expect(self, name, word, low, high):
        """Tells between which values a lag to come is."""
        # This refuses a name and a word that the order does not have.
        self.outlook.span_of(name, word)
        if self._is_told(name, word):
            raise Told(name)
        outlook = self.outlook.narrowed(name, word, low, high)
        self._keep(("expect", name, word, low, high))
        self.outlook = outlook

    def put(self, name, place, kind):
        """Changes the entry of a place."""
        plan = self.plan.with_spot(name, place, kind)
        self._check_ahead(name, plan.order.begin_of(name))
        self._change(("put", name, place, kind), plan)

    def room(self, name, studio):
        """Gives a piece another studio."""
        plan = self.plan.with_studio(name, studio)
        self._check_ahead(name, plan.order.call_of(name))
        self._change(("room", name, studio), plan)

    def staff(self, name, crew):
        """Gives a piece another crew."""
        plan = self.plan.with_crew(name, crew)
        self._check_ahead(name, plan.order.call_of(name))
        self._change(("staff", name, crew), plan)

    def retime(self, name, minute):
        """Gives a break another minute."""
        order = self.plan.order.retimed(name, minute)
        self._check_ahead(name, order.begin_of(name))
        self._change(("retime", name, minute), self.plan.with_order(order))

    def swap(self, first, second):
        """Lets two pieces change places."""
        order = self.plan.order
        check_piece(order, first)
        check_piece(order, second)
        self._check_ahead(first, order.call_of(first))
        self._check_ahead(second, order.call_of(second))
        plan = self.plan.with_order(order.swapped(first, second))
        self._change(("swap", first, second), plan)

    def space(self, ticks):
        """Changes the distance of spots of one kind."""
        order = self.plan.order
        plan = self.plan.with_order(order.with_house(order.house.with_apart(ticks)))
        self._change(("space", ticks), plan)

    def undo(self):
        """Takes back the last deed."""
        if self._past == []:
            raise NothingToUndo()
        self._restore(self._past[-1])

    def attempt(self, deeds):
        """Does all the deeds as one, or none of them; returns the list of their results."""
        before = self._state()
        count = len(self.deeds)
        waiting = list(deeds)
        results = []
        try:
            for deed in waiting:
                results.append(self._do(deed))
        except BarbreaksError:
            self._restore(before)
            raise
        done = tuple(self.deeds[count:])
        self.deeds = [*self.deeds[:count], ("attempt", done)]
        self._past = [*self._past[:count], before]
        return results

    def known(self, event):
        """The moment of an event, None if it can still come at several or has not come."""
        point = point_of(self.plan.order, event)
        shift = shift_of(self.outlook, event)
        if point > self.point or shift.low != shift.high:
            return None
        return self.moments[point] + shift.low

    def margin(self):
        """The least margin of all demands of the plan, None if it has no demands."""
        return min(margins(self.plan, self.outlook), default=None)

    def left(self):
        """The names of the items that have not begun."""
        return [item.name for item in self.plan.order.lineup[(self.point + 1) // 2:]]

    def _state(self):
        return (self.plan, self.outlook, self.point, self.moments, self.deeds, self._told,
                self._past)

    def _restore(self, state):
        plan, outlook, point, moments, deeds, told, past = state
        self.plan = plan
        self.outlook = outlook
        self.point = point
        self.moments = moments
        self.deeds = deeds
        self._told = told
        self._past = past

    def _keep(self, deed):
        """Writes down a deed, and the state before it for `undo`."""
        self._past = [*self._past, self._state()]
        self.deeds = [*self.deeds, deed]

    def _advance(self, deed, outlook, lag):
        """Does a deed after which the next point is known, with this lag before it."""
        moment = next_moment(self.plan.order, self.point, self.moments[-1], lag)
        self._keep(deed)
        self.outlook = outlook
        self.point = self.point + 1
        self.moments = [*self.moments, moment]
        return moment

    def _tell(self, deed, word, event):
        """Does a deed that tells the walk or pack before an event; returns its moment."""
        _, name, ticks = deed
        check_piece(self.plan.order, name)
        point = point_of(self.plan.order, event)
        if point > self.point:
            raise NotYet(name)
        if self._is_told(name, word):
            raise Told(name)
        outlook = self.outlook.narrowed(name, word, ticks, ticks)
        self._keep(deed)
        self.outlook = outlook
        self._told = [*self._told, (name, word)]
        return self.moments[point] + ticks

    def _is_told(self, name, word):
        """True if a lag is no longer one to come."""
        order = self.plan.order
        if word == "delay":
            return order.begin_of(name) <= self.point
        if word == "length":
            return order.end_of(name) <= self.point
        return (name, word) in self._told

    def _check_ahead(self, name, point):
        """Refuses to change an item whose point is known."""
        if point <= self.point:
            raise Begun(name)

    def _change(self, deed, plan):
        """Does a deed that gives the desk another plan, unless what may come breaks it."""
        outlook = self.outlook.carried(plan.order)
        check_safe(plan, outlook)
        self._keep(deed)
        self.plan = plan
        self.outlook = outlook

    def _do(self, deed):
        """Does a deed of an attempt."""
        word = deed[0]
        rest = deed[1:]
        if word not in DEEDS or len(rest) not in DEEDS[word]:
            raise BadWord(word)
        methods = {
            "press": self.press, "finish": self.finish, "walked": self.walked,
            "packed": self.packed, "expect": self.expect, "put": self.put, "room": self.room,
            "staff": self.staff, "retime": self.retime, "swap": self.swap, "space": self.space,
        }
        method = methods[word]
        return method(*rest)
