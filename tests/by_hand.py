"""What the tests share: lines followed minute by minute, and odd objects.

Nothing here uses the package's own arithmetic, so that a test compares two
different ways to the same number.
"""

from onwardlines.lines import Line, Stop, Walk
from onwardlines.routes import Route

FAR = 100000


def departs(every, at, minute):
    """Whether a line departs at a minute not too far from 0."""
    return minute in range(at - FAR * every, at + FAR * every, every)


def departure(every, at, start):
    """The first departure, found by waiting minute by minute."""
    for minute in range(start, start + every):
        if departs(every, at, minute):
            return minute
    raise AssertionError("a line departs once in every headway")


def arrival(every, at, ride, start):
    """The arrival of one line for a start."""
    return departure(every, at, start) + ride


def arrival_of_all(lines, start):
    """The arrival of lines that are taken one after another."""
    for every, at, ride in lines:
        start = arrival(every, at, ride, start)
    return start


def latest(lines, goal, span):
    """The latest start with an arrival of at most goal, minute by minute."""
    start = goal
    while arrival_of_all(lines, start) > goal:
        start -= 1
        if start < goal - span:
            raise AssertionError("no start found")
    return start


def numbers(line):
    """The three numbers of a line."""
    return (line.every, line.at, line.ride)


def all_lines(headways, rides):
    """All lines with these headways and rides, and every departure."""
    return [Line(every, at, ride)
            for every in headways for at in range(every) for ride in rides]


def fitting(one, other):
    """Whether of two headways one is a multiple of the other."""
    low, high = sorted((one, other))
    return high in range(low, high + 1, low)


def odd_objects():
    """Objects of all kinds, none of them an integer or a line."""
    return [True, False, "", "5", "every 15 from 3 ride 7", None, [], [3],
            [Walk(5)], (), (3,), (Walk(5),), (15, 3, 7), {}, {"every": 5},
            {"a": [1, (2, {"b": None})]}, Route(Walk(5)),
            Route(Line(15, 3, 7), Stop(5, 1)), [[[[[1]]]]]]


def any_objects():
    """Objects of all kinds, integers and lines among them."""
    return odd_objects() + [0, 1, -1, 7, 10 ** 60 - 1, 1 - 10 ** 60,
                            Line(15, 3, 7), Walk(5), Stop(15, 3)]
