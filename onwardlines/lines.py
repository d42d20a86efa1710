"""Lines, and the walks and stops among them."""

from onwardlines.errors import InvalidLine, InvalidNumber, NotFitting
from onwardlines.whole import all_fit, is_integer, written

MOST_ROUNDS = 10 ** 30


def check_fitting(every, other):
    """Raise NotFitting unless one of two headways divides the other."""
    if not all_fit([every, other]):
        raise NotFitting("none of the two headways divides the other")


class Line:
    """Departs at all times at + k * every, and arrives ride later."""

    KIND = "line"

    def __init__(self, every, at, ride):
        if not (is_integer(every) and is_integer(at) and is_integer(ride)):
            raise InvalidLine("every, at and ride must be integers")
        if not (0 <= at < every and 0 <= ride):
            raise InvalidLine("a line needs 0 <= at < every and 0 <= ride")
        self._every = every
        self._at = at
        self._ride = ride

    @property
    def every(self):
        """The headway."""
        return self._every

    @property
    def at(self):
        """The departure that is not below 0 and less than the headway."""
        return self._at

    @property
    def ride(self):
        """The time between departure and arrival."""
        return self._ride

    def __call__(self, time):
        """Return the arrival for a start."""
        return self.departure(time) + self._ride

    def departure(self, time):
        """Return the first departure from a time on."""
        return time + (self._at - time) % self._every

    def latest(self, time):
        """Return the latest start whose arrival is at most a time."""
        # The latest start is itself a departure: from it on nobody waits.
        leave = time - self._ride
        return leave - (leave - self._at) % self._every

    def starts(self, time):
        """Return the first and last start with this arrival, or None."""
        last = self.latest(time)
        if last + self._ride != time:
            return None
        return (last - self._every + 1, last)

    def __add__(self, other):
        """Return the line of taking this one and then the other."""
        if not isinstance(other, Line):
            raise InvalidLine("only a line can be added to a line")
        check_fitting(self._every, other._every)
        # As the headways fit, everybody who starts as late as possible waits
        # for the same time between the two rides.
        wait = (other._at - self._at - self._ride) % min(self._every, other._every)
        ride = self._ride + wait + other._ride
        if self._every >= other._every:
            return Line(self._every, self._at, ride)
        return Line(other._every, (other._at - wait - self._ride) % other._every, ride)

    def __mul__(self, other):
        """Return the line of taking this one so many times."""
        if not is_integer(other) or not 1 <= other <= MOST_ROUNDS:
            raise InvalidNumber("a line is taken from 1 to 10 ** 30 times")
        # Between two rides is always the same wait for the next departure.
        wait = -self._ride % self._every
        return Line(self._every, self._at, other * self._ride + (other - 1) * wait)

    def never_later(self, other):
        """Return whether no arrival is later than that of the other line."""
        check_fitting(self._every, other._every)
        # This line does worst against a start at which the other one departs.
        # Over these starts the wait for this line takes every value below its
        # headway that leaves the same remainder by the lesser headway.
        lesser = min(self._every, other._every)
        longest_wait = self._every - lesser + (self._at - other._at) % lesser
        return longest_wait + self._ride <= other._ride

    def __eq__(self, other):
        return (isinstance(other, Line) and self._every == other._every
                and self._at == other._at and self._ride == other._ride)

    def backward(self):
        """Return the line that is taken in the opposite direction of time."""
        return Line(self._every, (-self._at - self._ride) % self._every, self._ride)

    def text(self):
        """Return the words that write this line."""
        return f"every {written(self._every)} from {written(self._at)} ride {written(self._ride)}"


class Walk(Line):
    """A way of so many minutes that can be started at any time."""

    KIND = "walk"

    def __init__(self, ride):
        super().__init__(1, 0, ride)

    def text(self):
        """Return the words that write this walk."""
        return f"walk {written(self._ride)}"


class Stop(Line):
    """A line without a ride: it only waits for its departure."""

    KIND = "stop"

    def __init__(self, every, at):
        super().__init__(every, at, 0)

    def text(self):
        """Return the words that write this stop."""
        return f"stop {written(self._every)} from {written(self._at)}"
