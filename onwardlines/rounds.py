"""A line that is taken again and again."""

from onwardlines.errors import InvalidNumber
from onwardlines.lines import MOST_ROUNDS
from onwardlines.whole import is_below


def round_time(line):
    """Return how much later one arrives with each round behind the first one."""
    # Such a round begins with an arrival, and ends with the arrival of the next
    # departure; after a ride of 0 that is the same departure again.
    return -(-line.ride // line.every) * line.every


def after_rounds(line, time, number):
    """Return the arrival after so many rounds from a start."""
    if not is_below(number, MOST_ROUNDS + 1):
        raise InvalidNumber("a line is taken from 0 to 10 ** 30 times")
    if number == 0:
        return time
    return line(time) + (number - 1) * round_time(line)


def rounds_until(line, time, goal):
    """Return the least number of rounds with an arrival that is at least goal, or None."""
    if time >= goal:
        return 0
    missing = goal - line(time)
    if missing <= 0:
        return 1
    step = round_time(line)
    if step == 0:
        return None
    return 1 + -(-missing // step)


def overtaken(one, other, time):
    """Return the least number of rounds after which one arrives later than other, or None."""
    ahead = other(time) - one(time)
    if ahead < 0:
        return 1
    step = round_time(one) - round_time(other)
    if step <= 0:
        return None
    return 2 + ahead // step
