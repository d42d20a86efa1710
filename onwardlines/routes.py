"""Routes: lines that are taken one after another."""

from onwardlines.errors import InvalidIndex, InvalidRoute
from onwardlines.lines import Line
from onwardlines.whole import all_fit, is_integer

MOST_LEGS = 60


class Route:
    """From 1 to 60 lines, each taken with its next departure."""

    def __init__(self, *legs):
        if not 1 <= len(legs) <= MOST_LEGS:
            raise InvalidRoute("a route has 1 to 60 legs")
        if not all([isinstance(leg, Line) for leg in legs]):
            raise InvalidRoute("the legs of a route are lines")
        if not all_fit([leg.every for leg in legs]):
            raise InvalidRoute("of any two headways of a route one divides the other")
        self._legs = legs

    @classmethod
    def of(cls, legs):
        """Return the route with the legs of a list."""
        if not isinstance(legs, list):
            raise InvalidRoute("the legs are given as a list")
        return cls(*legs)

    @property
    def legs(self):
        """The lines, as a new list."""
        return list(self._legs)

    def __len__(self):
        return len(self._legs)

    def __call__(self, time):
        """Return the arrival for a start."""
        for leg in self._legs:
            time = leg(time)
        return time

    def __add__(self, other):
        """Return the route with the legs of this one and then of the other."""
        if not isinstance(other, Route):
            raise InvalidRoute("only a route can be added to a route")
        legs = self._legs + other._legs
        return Route(*legs)

    def line(self):
        """Return the one line that has the same arrivals as the route."""
        # Taken first, this line changes no arrival, and it fits every headway.
        joined = Line(1, 0, 0)
        for leg in self._legs:
            joined = joined + leg
        return joined

    def departures(self, time):
        """Yield, leg by leg, the departure and the arrival for a start."""
        for leg in self._legs:
            departure = leg.departure(time)
            time = departure + leg.ride
            yield (departure, time)

    def latest(self, time):
        """Return the latest start whose arrival is at most a time."""
        return self.line().latest(time)

    def backward(self):
        """Return the route of the legs backward, in the opposite order."""
        return Route.of([leg.backward() for leg in self._legs[::-1]])

    def part(self, first, last):
        """Return the route of the legs from first to last."""
        if not (is_integer(first) and is_integer(last)):
            raise InvalidIndex("legs are counted with integers")
        if not 0 <= first <= last < len(self._legs):
            raise InvalidIndex("a part goes from one leg to itself or a later one")
        return Route.of(self.legs[first:last + 1])
