"""Points 3, 4 and 8: the waits on a route, and the slack of its legs."""

import unittest

import by_hand
from by_hand import SMALL_ROUTES, great_legs, numbers_of, raised, sixty_legs
from onwardlines.errors import InvalidIndex
from onwardlines.lines import Line, Stop, Walk
from onwardlines.routes import Route
from onwardlines.waits import fixed_wait, least_slack, leg_waits, slack, starts_within, total_wait

MORE_ROUTES = (
    [Walk(0)],
    [Line(1, 0, 5), Stop(1, 0)],
    [Line(6, 2, 3), Line(12, 5, 0), Line(12, 0, 7), Line(3, 1, 1)],
    [Line(12, 5, 0), Line(6, 5, 3), Walk(2), Line(2, 0, 1), Walk(1)],
    [Line(2, 1, 1), Line(4, 3, 5), Line(8, 0, 9), Line(24, 23, 11)],
    [Line(24, 23, 11), Line(8, 0, 9), Line(4, 3, 5), Line(2, 1, 1)],
    [Walk(5), Walk(6), Line(9, 4, 2), Walk(1), Line(3, 0, 0), Line(27, 26, 40)],
)
ROUTES = SMALL_ROUTES + MORE_ROUTES
FACTOR = 10 ** 57 + 31


def headway(legs):
    return max(leg.every for leg in legs)


def by_minutes(legs, first=0):
    """For each start of a headway the waits ahead of each leg, and the arrivals."""
    lines = [by_hand.numbers(leg) for leg in legs]
    return {start: by_hand.waits_of(lines, start) for start in range(first, first + headway(legs))}


def slacks_by_minutes(legs, index, first=0):
    """For each start of a headway the slack of a leg."""
    lines = [by_hand.numbers(leg) for leg in legs]
    return {start: by_hand.slack_of(lines, arrivals[index], index)
            for start, (_, arrivals) in by_minutes(legs, first).items()}


def great_route():
    return Route.of(great_legs())


def far_indices(route):
    return (-1, len(route), len(route) + 1, -len(route), 60, -60, 10 ** 60, -10 ** 60)


class AllWaits(unittest.TestCase):
    def test_known_waits(self):
        route = Route(Walk(4), Line(15, 3, 7), Line(60, 20, 30))
        self.assertEqual(fixed_wait(route), 10)
        self.assertEqual(total_wait(route, 59), 10)
        self.assertEqual(total_wait(route, 60), 69)
        self.assertEqual(fixed_wait(Route(Line(15, 3, 7))), 0)

    def test_total_wait_of_every_start(self):
        for legs in ROUTES:
            route = Route(*legs)
            for first in (-30, 0, 7):
                for start, (waits, _) in by_minutes(legs, first).items():
                    self.assertEqual(total_wait(route, start), sum(waits))
                    self.assertEqual(total_wait(time=start, route=route), sum(waits))

    def test_fixed_wait_is_the_least_sum(self):
        for legs in ROUTES + (sixty_legs(),):
            sums = sorted(sum(waits) for waits, _ in by_minutes(legs).values())
            self.assertEqual(fixed_wait(Route(*legs)), sums[0])
            self.assertEqual(fixed_wait(route=Route(*legs)), sums[0])
            self.assertEqual(sums, list(range(sums[0], sums[0] + headway(legs))))

    def test_starts_within(self):
        for legs in ROUTES + (sixty_legs(),):
            route = Route(*legs)
            sums = [sum(waits) for waits, _ in by_minutes(legs).values()]
            for most in range(min(sums) - 3, max(sums) + 4):
                expected = sum(each <= most for each in sums)
                self.assertEqual(starts_within(route, most), expected)
                self.assertEqual(starts_within(most=most, route=route), expected)
            self.assertEqual(starts_within(route, min(sums) - 1), 0)
            self.assertEqual(starts_within(route, min(sums)), 1)
            self.assertEqual(starts_within(route, max(sums)), headway(legs))
            self.assertEqual(starts_within(route, -10 ** 60), 0)
            self.assertEqual(starts_within(route, 10 ** 60), headway(legs))

    def test_great_numbers(self):
        route = great_route()
        line, rides = route.line(), sum(leg.ride for leg in route.legs)
        for start in (-10 ** 60, 1 - 10 ** 59, -1, 0, 1, 10 ** 60, line.at, line.at + 1):
            waits = by_hand_waits(route, start)
            self.assertEqual(total_wait(route, start), sum(waits))
            self.assertEqual(total_wait(route, start), route(start) - start - rides)
        self.assertEqual(fixed_wait(route), sum(by_hand_waits(route, line.at)))
        least = fixed_wait(route)
        self.assertEqual([starts_within(route, least + more) for more in (-1, 0, 1, line.every - 1, line.every)],
                         [0, 1, 2, line.every, line.every])

    def test_everything_many_times_as_long(self):
        for legs in ROUTES:
            small, great = Route(*legs), Route(*[by_hand.many_times(leg, FACTOR) for leg in legs])
            self.assertEqual(fixed_wait(great), FACTOR * fixed_wait(small))
            for start in (-25, -1, 0, 1, 13):
                self.assertEqual(total_wait(great, FACTOR * start), FACTOR * total_wait(small, start))
                self.assertEqual(total_wait(great, FACTOR * start - 5), FACTOR * total_wait(small, start) + 5)
            for most in range(-2, 80, 7):
                within = FACTOR * starts_within(small, most)
                self.assertEqual(starts_within(great, FACTOR * most + FACTOR - 1), within)


def by_hand_waits(route, start):
    """The waits of a route with great numbers, from the arrivals of its legs."""
    waits = []
    for leg in route.legs:
        arrival = leg(start)
        waits.append(arrival - leg.ride - start)
        start = arrival
    return waits


class LegWaits(unittest.TestCase):
    def test_known_values(self):
        route = Route(Line(15, 3, 7), Line(60, 20, 30), Walk(4), Stop(30, 4), Line(60, 7, 1))
        self.assertEqual([leg_waits(route, k) for k in range(5)],
                         [(0, 1, 15), (10, 15, 4), (0, 0, 1), (10, 0, 1), (3, 0, 1)])

    def test_against_every_start(self):
        for legs in ROUTES + (sixty_legs(),):
            route, rows = Route(*legs), by_minutes(legs).values()
            for k in range(len(legs)):
                found = sorted({waits[k] for waits, _ in rows})
                least, step, many = leg_waits(route, k)
                self.assertIs(type(leg_waits(route, k)), tuple)
                self.assertEqual([least + step * each for each in range(many)], found)
                self.assertEqual(step == 0, len(found) == 1)
                self.assertEqual(leg_waits(index=k, route=route), (least, step, many))

    def test_the_first_leg(self):
        for every in (2, 3, 15, 10 ** 60):
            self.assertEqual(leg_waits(Route(Line(every, 1, 7), Walk(3)), 0), (0, 1, every))
        for leg in (Walk(3), Stop(1, 0), Line(1, 0, 9)):
            self.assertEqual(leg_waits(Route(leg, Stop(5, 2)), 0), (0, 0, 1))

    def test_great_numbers(self):
        for legs in ROUTES:
            small, great = Route(*legs), Route(*[by_hand.many_times(leg, FACTOR) for leg in legs])
            self.assertEqual(leg_waits(great, 0), (0, 1, FACTOR * legs[0].every))
            for k in range(1, len(legs)):
                least, step, many = leg_waits(small, k)
                self.assertEqual(leg_waits(great, k), (FACTOR * least, FACTOR * step, many))
        route = great_route()
        for start in (-10 ** 60, -17, 0, 10 ** 60 - 1):
            for k, wait in enumerate(by_hand_waits(route, start)):
                least, step, many = leg_waits(route, k)
                self.assertTrue(wait == least if step == 0 else wait in range(least, least + step * many, step))


class Slack(unittest.TestCase):
    def test_known_slack(self):
        route = Route(Line(15, 3, 7), Line(60, 20, 30))
        self.assertEqual([slack(route, start, 0) for start in (-12, -11, 3, 4, 19, 49)], [25, 10, 10, 55, 40, 10])
        self.assertEqual(least_slack(route, 0), 10)
        self.assertEqual([slack(route, start, 1) for start in (0, 4, -60)], [0, 0, 0])
        self.assertEqual(least_slack(route, 1), 0)

    def test_minute_by_minute(self):
        for legs in ROUTES:
            route = Route(*legs)
            for k in range(len(legs)):
                for first in (-30, 0):
                    for start, expected in slacks_by_minutes(legs, k, first).items():
                        self.assertEqual(slack(route, start, k), expected)
                        self.assertEqual(slack(index=k, time=start, route=route), expected)

    def test_least_slack(self):
        for legs in ROUTES:
            route = Route(*legs)
            for k in range(len(legs)):
                self.assertEqual(least_slack(route, k), min(slacks_by_minutes(legs, k).values()))
                self.assertEqual(least_slack(index=k, route=route), least_slack(route, k))

    def test_sixty_legs(self):
        legs = sixty_legs()
        route = Route(*legs)
        for k in (0, 17, 40, 58, 59):
            expected = slacks_by_minutes(legs, k)
            self.assertEqual({start: slack(route, start, k) for start in expected}, expected)
            self.assertEqual(least_slack(route, k), min(expected.values()))

    def test_great_numbers(self):
        route = great_route()
        for start in (-10 ** 60, -1, 0, 10 ** 60):
            arrivals = [arrival for _, arrival in route.departures(start)]
            for k in range(len(route) - 1):
                rest, more = route.part(k + 1, len(route) - 1), slack(route, start, k)
                self.assertGreaterEqual(more, least_slack(route, k))
                self.assertEqual(rest(arrivals[k] + more), arrivals[-1])
                self.assertGreater(rest(arrivals[k] + more + 1), arrivals[-1])
            self.assertEqual(slack(route, start, len(route) - 1), 0)

    def test_everything_many_times_as_long(self):
        for legs in ROUTES:
            small, great = Route(*legs), Route(*[by_hand.many_times(leg, FACTOR) for leg in legs])
            for k in range(len(legs)):
                self.assertEqual(least_slack(great, k), FACTOR * least_slack(small, k))
                for start in (-25, 0, 7):
                    self.assertEqual(slack(great, FACTOR * start, k), FACTOR * slack(small, start, k))


class Indices(unittest.TestCase):
    def test_out_of_range(self):
        for legs in ([Walk(7)], [Line(15, 3, 7), Line(60, 20, 30)], sixty_legs(), great_legs()):
            route = Route(*legs)
            for index in far_indices(route):
                with self.subTest(legs=len(legs), index=index):
                    for wrong in (lambda: leg_waits(route, index), lambda: slack(route, 5, index),
                                  lambda: slack(route, -10 ** 60, index), lambda: least_slack(route, index)):
                        self.assertIs(raised(wrong), InvalidIndex)

    def test_booleans_are_no_indices(self):
        route = Route(Line(15, 3, 7), Line(60, 20, 30))
        for odd in (True, False, "0", None):
            for wrong in (lambda: leg_waits(route, odd), lambda: slack(route, 5, odd),
                          lambda: least_slack(route, odd)):
                self.assertIs(raised(wrong), InvalidIndex)

    def test_nothing_changes(self):
        route = Route(Line(15, 3, 7), Walk(4), Line(60, 20, 30))

        def answers():
            return [fixed_wait(route), total_wait(route, -7), starts_within(route, 20), numbers_of(route),
                    [leg.KIND for leg in route.legs],
                    [(leg_waits(route, k), slack(route, 3, k), least_slack(route, k)) for k in range(3)]]
        first = answers()
        for index in far_indices(route):
            self.assertIs(raised(lambda: slack(route, 0, index)), InvalidIndex)
        self.assertEqual(answers(), first)


if __name__ == "__main__":
    unittest.main()
