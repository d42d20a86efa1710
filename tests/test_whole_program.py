"""All points at once: small routes against their legs taken one by one, and what must not matter."""

import itertools
import unittest

import by_hand
from by_hand import SMALL_ROUTES, arrival_of_all, numbers, numbers_of, slack_of, waits_of
from onwardlines.alike import count_starts, differences, first_earlier, worst_start
from onwardlines.free import best_ride, count_best, is_best, nth_best, with_departure
from onwardlines.lines import Line, Stop, Walk
from onwardlines.net import Net
from onwardlines.rounds import after_rounds, overtaken, rounds_until
from onwardlines.routes import Route
from onwardlines.session import session
from onwardlines.texts import read_route, read_wishes, write_route, write_wishes
from onwardlines.waits import fixed_wait, least_slack, leg_waits, slack, starts_within, total_wait

MORE_ROUTES = (
    [Line(6, 2, 3), Line(12, 5, 0), Line(12, 0, 7), Line(3, 1, 1)],
    [Line(12, 5, 0), Line(6, 5, 3), Walk(2), Line(2, 0, 1), Walk(1)],
    [Line(8, 3, 8), Stop(8, 2)],
    [Line(3, 2, 6), Stop(3, 2), Walk(3)],
    [Line(2, 1, 2), Walk(2), Line(6, 5, 2)],
)
ROUTES = SMALL_ROUTES + MORE_ROUTES
FACTOR = 10 ** 56 + 3
FIRST = -7


def headway(legs):
    return max(leg.every for leg in legs)


def fitting_pairs():
    """Pairs of routes of which all legs fit."""
    for one, other in itertools.product(ROUTES, repeat=2):
        if by_hand.fitting(headway(one), headway(other)):
            yield one, other


def shifted(leg, minutes):
    """The leg whose departures are all so much later."""
    at = (leg.at + minutes) % leg.every
    return {"line": Line(leg.every, at, leg.ride), "walk": leg, "stop": Line(leg.every, at, 0)}[leg.KIND]


class EveryStart(unittest.TestCase):
    def test_routes_waits_and_slack(self):
        for legs in ROUTES:
            route, lines, every = Route(*legs), [numbers(leg) for leg in legs], headway(legs)
            line, seen = route.line(), []
            for start in range(FIRST, FIRST + every):
                waits, arrivals = waits_of(lines, start)
                seen.append(waits)
                self.assertEqual((route(start), line(start)), (arrivals[-1], arrivals[-1]))
                self.assertEqual([arrival for _, arrival in route.departures(start)], arrivals)
                self.assertEqual(total_wait(route, start), sum(waits))
                self.assertEqual([slack(route, start, k) for k in range(len(legs))],
                                 [slack_of(lines, arrivals[k], k) for k in range(len(legs))])
                self.assertEqual(session(f"start {start} {write_route(route)}"), str(arrivals[-1]))
            self.assertEqual(fixed_wait(route), min(map(sum, seen)))
            for most in (0, 3, 10, 40):
                self.assertEqual(starts_within(route, most), sum(sum(waits) <= most for waits in seen))
            for k in range(len(legs)):
                least, step, many = leg_waits(route, k)
                self.assertEqual([least + step * each for each in range(many)], sorted({waits[k] for waits in seen}))
                self.assertEqual(least_slack(route, k),
                                 min(slack(route, start, k) for start in range(FIRST, FIRST + every)))

    def test_best_departures(self):
        for legs in ROUTES:
            route = Route(*legs)
            for index, leg in enumerate(legs):
                rides = []
                for at in range(leg.every):
                    lines = numbers_of(with_departure(route, index, at))
                    rides.append(min(arrival_of_all(lines, start) - start for start in range(headway(legs))))
                best = [at for at, ride in enumerate(rides) if ride == min(rides)]
                self.assertEqual(best_ride(route, index), min(rides))
                self.assertEqual([nth_best(route, index, k) for k in range(count_best(route, index))], best)
                self.assertEqual([at for at in range(leg.every) if is_best(route, index, at)], best)

    def test_routes_compared(self):
        for one, other in fitting_pairs():
            first, second = [numbers(leg) for leg in one], [numbers(leg) for leg in other]
            joined = (Route(*one).line(), Route(*other).line())
            many = max(headway(one), headway(other))
            late = {start: arrival_of_all(first, start) - arrival_of_all(second, start) for start in range(2 * many)}
            values = [late[start] for start in range(many)]
            self.assertEqual(differences(*joined)[:2], (min(values), max(values)))
            self.assertEqual(worst_start(*joined), values.index(max(values)))
            self.assertEqual(count_starts(*joined), (sum(value < 0 for value in values), values.count(0),
                                                     sum(value > 0 for value in values)))
            self.assertIs(joined[0].never_later(joined[1]), max(values) <= 0)
            for start in (0, many // 2, many - 1):
                earlier = [time for time in range(start, start + many) if late[time] < 0]
                self.assertEqual(first_earlier(*joined, start), earlier[0] if earlier else None)

    def test_rounds(self):
        for legs in ROUTES:
            line, lines = Route(*legs).line(), [numbers(leg) for leg in legs]
            for start in range(FIRST, FIRST + headway(legs)):
                times = [start]
                for _ in range(4):
                    times.append(arrival_of_all(lines, times[-1]))
                self.assertEqual([after_rounds(line, start, number) for number in range(5)], times)
                for number, time in enumerate(times):
                    self.assertEqual(rounds_until(line, start, time), times.index(time))
                    self.assertEqual((line * 3)(start), times[3])
                    reached = [each for each, arrival in enumerate(times) if arrival > time]
                    if reached:
                        self.assertEqual(rounds_until(line, start, time + 1), reached[0])

    def test_rounds_compared(self):
        for one, other in itertools.product(ROUTES, repeat=2):
            lines = ([numbers(leg) for leg in one], [numbers(leg) for leg in other])
            for start in (FIRST, 0, 5):
                found, times = None, [start, start]
                for number in range(1, 13):
                    times = [arrival_of_all(lines[k], times[k]) for k in (0, 1)]
                    if found is None and times[0] > times[1]:
                        found = number
                answer = overtaken(Route(*one).line(), Route(*other).line(), start)
                if found is None:
                    self.assertTrue(answer is None or answer > 12)
                else:
                    self.assertEqual(answer, found)


class WhatMustNotMatter(unittest.TestCase):
    def test_shifted_in_time(self):
        for legs, minutes in itertools.product(ROUTES, (1, 5, -3)):
            route, later = Route(*legs), Route(*[shifted(leg, minutes) for leg in legs])
            line, joined = route.line(), later.line()
            self.assertEqual((joined.every, joined.ride), (line.every, line.ride))
            self.assertEqual(joined.at, (line.at + minutes) % line.every)
            self.assertEqual(fixed_wait(later), fixed_wait(route))
            for start in (FIRST, 0, 4):
                self.assertEqual(later(start + minutes), route(start) + minutes)
                self.assertEqual(later.latest(start + minutes), route.latest(start) + minutes)
                self.assertEqual(total_wait(later, start + minutes), total_wait(route, start))
                self.assertEqual(after_rounds(joined, start + minutes, 9), after_rounds(line, start, 9) + minutes)
                self.assertEqual(rounds_until(joined, start + minutes, 99 + minutes), rounds_until(line, start, 99))
                for k in range(len(legs)):
                    self.assertEqual(slack(later, start + minutes, k), slack(route, start, k))
            for k, leg in enumerate(legs):
                self.assertEqual(leg_waits(later, k), leg_waits(route, k))
                self.assertEqual(best_ride(later, k), best_ride(route, k))
                self.assertEqual(count_best(later, k), count_best(route, k))
                for at in range(leg.every):
                    self.assertIs(is_best(later, k, (at + minutes) % leg.every), is_best(route, k, at))

    def test_compared_and_shifted_in_time(self):
        for one, other in fitting_pairs():
            first, second = Route(*one).line(), Route(*other).line()
            later = (shifted(first, 5), shifted(second, 5))
            self.assertEqual(differences(*later), differences(first, second))
            self.assertEqual(count_starts(*later), count_starts(first, second))
            worst = worst_start(*later) - 5
            self.assertEqual(first(worst) - second(worst), differences(first, second)[1])
            self.assertEqual(overtaken(*later, 8), overtaken(first, second, 3))
            earlier = first_earlier(first, second, 3)
            self.assertEqual(first_earlier(*later, 8), None if earlier is None else earlier + 5)

    def test_multiplied(self):
        for legs in ROUTES:
            route, great = Route(*legs), Route(*[by_hand.many_times(leg, FACTOR) for leg in legs])
            line = great.line()
            self.assertEqual(numbers(line), tuple(FACTOR * number for number in numbers(route.line())))
            self.assertEqual(fixed_wait(great), FACTOR * fixed_wait(route))
            for k in range(len(legs)):
                self.assertEqual(best_ride(great, k), FACTOR * best_ride(route, k))
                self.assertEqual(least_slack(great, k), FACTOR * least_slack(route, k))
            for start in (FIRST, 0, 4):
                self.assertEqual(great(FACTOR * start), FACTOR * route(start))
                # Nothing departs in the minutes just ahead of such a time.
                self.assertEqual(great(FACTOR * start - 3), FACTOR * route(start))
                self.assertEqual(total_wait(great, FACTOR * start), FACTOR * total_wait(route, start))
                self.assertEqual(after_rounds(line, FACTOR * start, 9), FACTOR * after_rounds(route.line(), start, 9))
                self.assertEqual(rounds_until(line, FACTOR * start, FACTOR * 99),
                                 rounds_until(route.line(), start, 99))

    def test_backward(self):
        for legs in ROUTES:
            route, mirrored, count = Route(*legs), Route(*legs).backward(), len(legs)
            self.assertEqual(mirrored.line(), route.line().backward())
            self.assertEqual(mirrored.backward().legs, route.legs)
            self.assertEqual(fixed_wait(mirrored), fixed_wait(route))
            for time in (FIRST, 0, 4):
                self.assertEqual(mirrored(-time), -route.latest(time))
                self.assertEqual(mirrored.latest(-time), -route(time))
            for k in range(count):
                self.assertEqual(best_ride(mirrored, count - 1 - k), best_ride(route, k))
                self.assertEqual(count_best(mirrored, count - 1 - k), count_best(route, k))
        for one, other in fitting_pairs():
            first, second = Route(*one).line(), Route(*other).line()
            self.assertIs(first.backward().never_later(second.backward()), first.never_later(second))

    def test_cut_in_two_and_put_together(self):
        for legs in ROUTES:
            route = Route(*legs)
            for cut in range(len(legs) - 1):
                before, after = route.part(0, cut), route.part(cut + 1, len(legs) - 1)
                again = before + after
                self.assertEqual(write_route(again), write_route(route))
                self.assertEqual(write_route(before) + " then " + write_route(after), write_route(route))
                self.assertEqual(before.line() + after.line(), route.line())
                for start in range(FIRST, FIRST + headway(legs)):
                    self.assertEqual(after(before(start)), route(start))
                    between = after.line().departure(before(start))
                    self.assertEqual(slack(route, start, cut), between - before(start))
                    self.assertEqual(total_wait(route, start),
                                     total_wait(before, start) + total_wait(after, before(start)))

    def test_written_and_read(self):
        for legs in ROUTES:
            route, again = Route(*legs), read_route(write_route(Route(*legs)))
            self.assertEqual([leg.KIND for leg in again.legs], [leg.KIND for leg in legs])
            self.assertEqual(again.line(), route.line())
            self.assertEqual(session("route " + write_route(again)), route.line().text())


class NetsAndRoutes(unittest.TestCase):
    def test_nobody_waits_in_a_timetable(self):
        net = Net()
        for every, ride in ((12, 7), (6, 5), (6, 0), (24, 9)):
            net.add(every, ride)
        for wish in read_wishes("0>1+4 1>2+1 3>0+2"):
            net.wish(*wish)
        net.fix(2, 5)
        plan = net.plan()
        self.assertEqual(write_wishes(net.wishes()), "0>1+4 1>2+1 3>0+2")
        self.assertEqual(plan.count(), 4)
        rows = ["add 12 7", "add 6 5", "add 6 0", "add 24 9", "wish 0 1 4", "wish 1 2 1", "wish 3 0 2", "fix 2 5"]
        for number in range(plan.count()):
            timetable = plan.nth(number)
            told = session("\n".join(rows + [f"nth {number}"])).split("\n")[-1]
            self.assertEqual(told, " ".join(map(str, timetable)))
            lines = [Line(every, at, ride) for (every, ride), at in zip(net.lines(), timetable)]
            for i, j, walk in net.wishes():
                # Some of those who arrive with line i find line j, and with a lesser headway of j all of them.
                least, _, many = leg_waits(Route(lines[i], Walk(walk), lines[j]), 2)
                self.assertEqual(least, 0)
                self.assertEqual(many, max(1, lines[j].every // lines[i].every))


if __name__ == "__main__":
    unittest.main()
