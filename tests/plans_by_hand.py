"""Plans judged without the package: all timetables, rings and ways gone step by step."""

import itertools
import random

CHAINS = ((1, 2, 4, 8), (1, 3, 6, 12), (2, 2, 6), (2, 4, 12), (3,), (5, 10), (1,), (4, 4, 8), (1, 5))


def lesser(lines, i, j):
    """The lesser headway of two lines."""
    return min(lines[i][0], lines[j][0])


def holds(lines, wish, departures):
    """Whether somebody who arrives and walks finds a departure without a wait."""
    i, j, walk = wish
    return (departures[i] + lines[i][1] + walk - departures[j]) % lesser(lines, i, j) == 0


def timetables(lines, wishes, fixed):
    """All timetables, in ascending order, found among all lists of departures."""
    found = []
    for departures in itertools.product(*[range(every) for every, _ in lines]):
        if all(departures[i] == at for i, at in fixed):
            if all(holds(lines, wish, departures) for wish in wishes):
                found.append(list(departures))
    return found


def walked(lines, wishes, way):
    """Start, end, sum and least headway of a way, or None if it does not hang together."""
    places, total = [], 0
    for k, forward in way:
        i, j, walk = wishes[k]
        begin, end = (i, j) if forward else (j, i)
        if places and places[-1] != begin:
            return None
        places.extend([begin, end])
        total += (lines[i][1] + walk) * (1 if forward else -1)
    return places[0], places[-1], total, min(lines[place][0] for place in places)


def is_wrong_ring(lines, wishes, way):
    """Whether a list of steps is a ring that no timetable can meet."""
    gone = walked(lines, wishes, way)
    return gone is not None and gone[0] == gone[1] and gone[2] % gone[3] != 0


def is_wrong_way(lines, wishes, fixed, i, j, way):
    """Whether a list of steps contradicts two fixed departures."""
    gone, departures = walked(lines, wishes, way), dict(fixed)
    if gone is None or i not in departures or j not in departures or gone[:2] != (i, j):
        return False
    return (departures[i] + gone[2] - departures[j]) % gone[3] != 0


def is_certificate(lines, wishes, fixed, thing):
    """Whether what a plan returned has the form of a certificate and is one."""
    steps = thing if type(thing) is list else thing[2]
    assert type(steps) is list and steps
    assert all(type(step) is tuple and type(step[0]) is int and type(step[1]) is bool for step in steps)
    if type(thing) is list:
        return is_wrong_ring(lines, wishes, thing)
    assert type(thing) is tuple and len(thing) == 3
    return is_wrong_way(lines, wishes, fixed, *thing)


def labels(lines, wishes, least):
    """For each line with at least this headway the first line that wishes tie it to."""
    found = {i: i for i, (every, _) in enumerate(lines) if every >= least}
    for _ in lines:
        for i, j, _ in wishes:
            if i in found and j in found:
                found[i] = found[j] = min(found[i], found[j])
    return found


def count_by_components(lines, wishes, fixed):
    """The number of timetables by result R4, if there are any."""
    many, before = 1, 1
    for modulus in sorted({every for every, _ in lines}):
        found = labels(lines, wishes, modulus)
        known = {found[i] for i, _ in fixed if i in found}
        many *= (modulus // before) ** len(set(found.values()) - known)
        before = modulus
    return many


def random_plan(chosen):
    """The arguments of a small plan; about three quarters of them have a timetable."""
    while True:
        chain = chosen.choice(CHAINS)
        lines = [(chosen.choice(chain), chosen.randint(0, 9)) for _ in range(chosen.randint(1, 5))]
        many = len(lines)
        choices = 1
        for every, _ in lines:
            choices *= every
        if choices <= 1500:
            break
    wishes = [(chosen.randrange(many), chosen.randrange(many), chosen.randint(0, 9))
              for _ in range(chosen.randint(0, 5))]
    aim = [chosen.randrange(every) for every, _ in lines]
    if chosen.random() < 0.7:
        wishes = [(i, j, (aim[j] - aim[i] - lines[i][1]) % lesser(lines, i, j)) for i, j, _ in wishes]
    fixed = [(i, aim[i] if chosen.random() < 0.7 else chosen.randrange(lines[i][0]))
             for i in chosen.sample(range(many), chosen.randint(0, min(many, 3)))]
    return lines, wishes, fixed


def great_plan(everies, fixings):
    """The arguments of a plan of 40 lines and 80 wishes that has a timetable, and one of these."""
    chosen = random.Random(17)
    lines = [(every, chosen.randrange(10 ** 50)) for every in everies]
    aim = [chosen.randrange(every) for every, _ in lines]
    wishes = []
    for _ in range(80):
        i, j = chosen.randrange(40), chosen.randrange(40)
        walk = (aim[j] - aim[i] - lines[i][1]) % lesser(lines, i, j)
        wishes.append((i, j, walk + lesser(lines, i, j) * chosen.randrange(3)))
    fixed = [(i, aim[i]) for i in chosen.sample(range(40), fixings)]
    return (lines, wishes, fixed), aim


def great_headways():
    """Lists of 40 headways with up to 50 digits that fit."""
    growing = [10 ** (k + 10) for k in range(40)]
    few = [(10 ** 20 + 1) * 10 ** (9 * (k % 4)) for k in range(40)]
    return [growing, growing[::-1], few, [7 * 10 ** 49] * 40, [1] * 20 + [10 ** 49 + 9] * 20]
