"""The waits on a route, and the slack of its legs."""

from onwardlines.errors import InvalidIndex
from onwardlines.lines import Walk
from onwardlines.routes import Route
from onwardlines.whole import is_below


def check_leg(route, index):
    """Raise InvalidIndex unless the route has a leg of this number."""
    if not is_below(index, len(route)):
        raise InvalidIndex("the route has no such leg")


def line_of(legs):
    """Return the line of some legs of a route, perhaps of none."""
    # A walk of no minutes changes no arrival, and it fits every headway.
    return Route.of([Walk(0)] + legs).line()


def least_wait(before, after):
    """Return the least wait between one line and the next, over all starts."""
    # All waits between the two differ by multiples of the lesser headway.
    return (after.at - before.at - before.ride) % min(before.every, after.every)


def fixed_wait(route):
    """Return the part of all waits that is the same for every start."""
    return route.line().ride - sum([leg.ride for leg in route.legs])


def total_wait(route, time):
    """Return the sum of all waits for a start."""
    return route(time) - time - sum([leg.ride for leg in route.legs])


def starts_within(route, most):
    """Return for how many of H starts in a row all waits are at most so many minutes."""
    # Over these starts the first wait takes every value from 0 to H - 1 once.
    return max(0, min(route.line().every, most - fixed_wait(route) + 1))


def leg_waits(route, index):
    """Return the least wait ahead of a leg, the step to the next one, and how many there are."""
    check_leg(route, index)
    leg = route.legs[index]
    before = line_of(route.legs[:index])
    step = min(before.every, leg.every)
    many = leg.every // step
    return (least_wait(before, leg), step if many > 1 else 0, many)


def slack(route, time, index):
    """Return by how much a leg can arrive later without a later end of the route."""
    check_leg(route, index)
    taken = route.part(0, index)
    arrival = taken(time)
    return line_of(route.legs[index + 1:]).departure(arrival) - arrival


def least_slack(route, index):
    """Return the least slack of a leg over all starts."""
    check_leg(route, index)
    return least_wait(route.part(0, index).line(), line_of(route.legs[index + 1:]))
