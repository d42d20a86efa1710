"""What the tests share: lines followed minute by minute, and odd objects.

Nothing here uses the package's own arithmetic, so that a test compares two
different ways to the same number.
"""

from onwardlines.lines import Line, Stop, Walk
from onwardlines.routes import Route

FAR = 100000
SMALL_ROUTES = (
    [Walk(7)],
    [Stop(12, 5)],
    [Line(12, 5, 20)],
    [Walk(3), Line(4, 1, 6)],
    [Line(4, 1, 6), Walk(3)],
    [Line(4, 1, 6), Line(12, 11, 0)],
    [Line(12, 11, 0), Line(4, 1, 6)],
    [Stop(6, 5), Stop(6, 4)],
    [Line(2, 1, 3), Line(12, 4, 5), Stop(4, 3), Walk(9), Line(12, 0, 1)],
    [Line(24, 23, 30), Stop(2, 0), Line(8, 7, 7), Walk(1), Line(24, 3, 2), Stop(4, 1)],
)


def departs(every, at, minute):
    """Whether a line departs at a minute not too far from 0."""
    return minute in range(at - FAR * every, at + FAR * every, every)


def departure(every, at, start):
    """The first departure, found by waiting minute by minute."""
    for minute in range(start, start + every):
        if departs(every, at, minute):
            return minute
    raise AssertionError("a line departs once in every headway")


def arrival(every, at, ride, start):
    """The arrival of one line for a start."""
    return departure(every, at, start) + ride


def arrival_of_all(lines, start):
    """The arrival of lines that are taken one after another."""
    for every, at, ride in lines:
        start = arrival(every, at, ride, start)
    return start


def latest(lines, goal, span):
    """The latest start with an arrival of at most goal, minute by minute."""
    start = goal
    while arrival_of_all(lines, start) > goal:
        start -= 1
        if start < goal - span:
            raise AssertionError("no start found")
    return start


def numbers(line):
    """The three numbers of a line."""
    return (line.every, line.at, line.ride)


def all_lines(headways, rides):
    """All lines with these headways and rides, and every departure."""
    return [Line(every, at, ride)
            for every in headways for at in range(every) for ride in rides]


def fitting(one, other):
    """Whether of two headways one is a multiple of the other."""
    low, high = sorted((one, other))
    return high in range(low, high + 1, low)


def odd_objects():
    """Objects of all kinds, none of them an integer or a line."""
    return [True, False, "", "5", "every 15 from 3 ride 7", None, [], [3],
            [Walk(5)], (), (3,), (Walk(5),), (15, 3, 7), {}, {"every": 5},
            {"a": [1, (2, {"b": None})]}, Route(Walk(5)),
            Route(Line(15, 3, 7), Stop(5, 1)), [[[[[1]]]]]]


def any_objects():
    """Objects of all kinds, integers and lines among them."""
    return odd_objects() + [0, 1, -1, 7, 10 ** 60 - 1, 1 - 10 ** 60,
                            Line(15, 3, 7), Walk(5), Stop(15, 3)]


def sixty_legs():
    """Sixty legs of all kinds with headways that fit."""
    legs = []
    for k in range(20):
        every = (1, 2, 4, 12, 24)[k % 5]
        legs.extend([Line(every, k % every, 5 * k), Walk(k), Stop(24, k)])
    return legs


def great_legs():
    """Legs with numbers of up to 60 digits."""
    small, middle = 10 ** 20 + 1, (10 ** 20 + 1) * 10 ** 19
    great = middle * 10 ** 20
    return [Line(middle, small * 3 + 1, 10 ** 60 - 1), Walk(10 ** 59), Line(great, great - 5, 3),
            Stop(small, small - 1), Line(great, middle + 2, 10 ** 58), Line(small, 0, 0)]


def numbers_of(route):
    """The numbers of all legs of a route."""
    return [numbers(leg) for leg in route.legs]


def waits_of(lines, start):
    """The waits ahead of all legs for a start, and the arrivals of all legs."""
    waits, arrivals = [], []
    for every, at, ride in lines:
        leave = departure(every, at, start)
        waits.append(leave - start)
        start = leave + ride
        arrivals.append(start)
    return waits, arrivals


def slack_of(lines, arrival_there, index):
    """By how much a leg can arrive later, minute by minute, with the same end of the route."""
    rest = lines[index + 1:]
    if not rest:
        return 0
    minutes = 0
    while arrival_of_all(rest, arrival_there + minutes + 1) == arrival_of_all(rest, arrival_there):
        minutes += 1
    return minutes


def many_times(line, factor):
    """The line in which everything lasts a number of times as long."""
    return Line(line.every * factor, line.at * factor, line.ride * factor)


def raised(wrong):
    """The class of the error that a call raises."""
    try:
        wrong()
    except Exception as error:
        return type(error)
    return None
