"""The best departure of one leg of a route, while all others stay."""

from onwardlines.errors import InvalidLine, InvalidNumber
from onwardlines.lines import Line
from onwardlines.routes import Route
from onwardlines.waits import check_leg, line_of
from onwardlines.whole import is_below


def sides(route, index):
    """Return the line ahead of a leg, the leg, and the line behind it."""
    check_leg(route, index)
    legs = route.legs
    return (line_of(legs[:index]), legs[index], line_of(legs[index + 1:]))


def least_waits(before, leg, after):
    """Return the least sum of the waits ahead of a leg and behind it."""
    # Whatever the leg's departure is, this sum leaves the same remainder by the
    # lesser headway of both sides, and for some departures it is that remainder.
    return (after.at - leg.ride - before.at - before.ride) % min(before.every, after.every)


def best_block(before, leg, after):
    """Return (first, length, period) of the best departures, which come again every period.

    The first one is not below 0 and less than the period.
    """
    # The last best departure of a block leaves no wait behind the leg. With one
    # that is earlier, by the least waits at most, a part of the wait ahead of the
    # leg moves behind it. If that is the leg's headway or more, all are best.
    waits = least_waits(before, leg, after)
    ready = before.at + before.ride
    gap = after.at - leg.ride - ready
    period = min(leg.every, max(before.every, after.every))
    first = (ready + gap % min(leg.every, after.every) - waits) % period
    return (first, min(leg.every, waits + 1), period)


def with_departure(route, index, at):
    """Return the route with another departure of one leg."""
    check_leg(route, index)
    legs = route.legs
    leg = legs[index]
    if not is_below(at, leg.every):
        raise InvalidLine("a departure is from 0 to the headway less 1")
    changed = Line(leg.every, at, leg.ride)
    return Route.of(legs[:index] + [changed] + legs[index + 1:])


def best_ride(route, index):
    """Return the least ride of the route's line, over all departures of one leg."""
    before, leg, after = sides(route, index)
    return before.ride + leg.ride + after.ride + least_waits(before, leg, after)


def count_best(route, index):
    """Return how many departures of a leg reach the least ride."""
    before, leg, after = sides(route, index)
    length, period = best_block(before, leg, after)[1:]
    return leg.every // period * length


def is_best(route, index, at):
    """Return whether an object is a departure of a leg that reaches the least ride."""
    before, leg, after = sides(route, index)
    first, length, period = best_block(before, leg, after)
    return is_below(at, leg.every) and (at - first) % period < length


def nth_best(route, index, number):
    """Return the best departure of a leg with a number, in ascending order."""
    if not is_below(number, count_best(route, index)):
        raise InvalidNumber("so many best departures there are not")
    before, leg, after = sides(route, index)
    first, length, period = best_block(before, leg, after)
    periods, place = divmod(number, length)
    # The block may go beyond the end of a period; what does so begins the next.
    beyond = max(0, first + length - period)
    if place < beyond:
        return periods * period + place
    return periods * period + first + place - beyond
