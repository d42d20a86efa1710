"""Points 3, 4 and 7: routes, and the one line that each of them is."""

import inspect
import unittest

import by_hand
from by_hand import SMALL_ROUTES, great_legs, numbers_of, sixty_legs
from onwardlines.errors import InvalidIndex, InvalidRoute
from onwardlines.lines import Line, Stop, Walk
from onwardlines.routes import Route

ODD_INDICES = (True, False, "1", "", None, [], [0], (), (0,), {}, Walk(1), Route(Walk(1)))


class Making(unittest.TestCase):
    def test_legs_and_length(self):
        for legs in SMALL_ROUTES + (sixty_legs(), great_legs()):
            for route in (Route(*legs), Route.of(legs), Route.of(legs=legs)):
                self.assertIs(type(route), Route)
                self.assertEqual(len(route), len(legs))
                self.assertEqual(route.legs, legs)
                self.assertEqual([leg.KIND for leg in route.legs], [leg.KIND for leg in legs])

    def test_no_legs_and_too_many(self):
        legs = sixty_legs()
        for wrong in ([], legs + [Walk(1)], legs + legs, [Walk(1)] * 61):
            for made in (lambda: Route(*wrong), lambda: Route.of(wrong)):
                with self.assertRaises(InvalidRoute) as caught:
                    made()
                self.assertIs(type(caught.exception), InvalidRoute)

    def test_legs_that_do_not_fit(self):
        for headways in ((2, 3), (4, 6), (2, 3, 6), (6, 2, 3), (1, 4, 12, 6), (10 ** 59, 10 ** 59 - 1)):
            legs = [Line(every, 0, 1) for every in headways]
            for made in (lambda: Route(*legs), lambda: Route.of(legs)):
                with self.subTest(headways=headways), self.assertRaises(InvalidRoute):
                    made()
        self.assertEqual(len(Route(*[Line(every, 0, 1) for every in (12, 1, 4, 2, 12, 24)])), 6)

    def test_legs_that_are_no_lines(self):
        for odd in by_hand.odd_objects() + [0, 1, -10 ** 60]:
            for made in (lambda: Route(odd), lambda: Route(Walk(1), odd), lambda: Route(odd, Walk(1)),
                         lambda: Route.of([odd]), lambda: Route.of([Walk(1), odd]),
                         lambda: Route.of([odd, Line(2, 0, 0), Line(3, 0, 0)])):
                with self.subTest(odd=odd), self.assertRaises(InvalidRoute) as caught:
                    made()
                self.assertIs(type(caught.exception), InvalidRoute)

    def test_of_takes_a_list_and_nothing_else(self):
        for odd in by_hand.any_objects():
            if odd == [Walk(5)]:
                self.assertEqual(Route.of(odd).legs, [Walk(5)])
                continue
            with self.subTest(odd=odd), self.assertRaises(InvalidRoute) as caught:
                Route.of(odd)
            self.assertIs(type(caught.exception), InvalidRoute)
        for wrong in ((Walk(5),), {"legs": [Walk(5)]}, Walk(5), Route(Walk(5))):
            with self.assertRaises(InvalidRoute):
                Route.of(wrong)

    def test_a_changed_list_changes_nothing(self):
        legs = [Walk(3), Line(4, 1, 6)]
        route = Route.of(legs)
        legs.append(Walk(1))
        legs[0] = Walk(100)
        self.assertEqual(route.legs, [Walk(3), Line(4, 1, 6)])
        self.assertEqual(len(route), 2)

    def test_legs_is_a_new_list_each_time(self):
        route = Route(Walk(3), Line(4, 1, 6))
        taken = route.legs
        self.assertIsInstance(taken, list)
        self.assertIsNot(taken, route.legs)
        taken.clear()
        self.assertEqual(route.legs, [Walk(3), Line(4, 1, 6)])
        with self.assertRaises(AttributeError):
            route.legs = []

    def test_compared_by_identity(self):
        one, other = Route(Walk(3)), Route(Walk(3))
        self.assertIs(one == other, False)
        self.assertIs(one != other, True)
        self.assertIs(one == one, True)
        self.assertIs(one == Walk(3), False)
        self.assertEqual(len({one: 1, other: 2}), 2)

    def test_where_the_methods_stand(self):
        self.assertEqual(Route.__module__, "onwardlines.routes")
        for name in ("of", "legs", "__len__", "__call__", "__add__", "line", "departures",
                     "latest", "backward", "part"):
            self.assertIn(name, vars(Route))
        self.assertIsInstance(vars(Route)["legs"], property)
        self.assertIsInstance(vars(Route)["of"], classmethod)


class Arrivals(unittest.TestCase):
    def test_leg_by_leg(self):
        for legs in SMALL_ROUTES:
            route = Route(*legs)
            for start in range(-30, 31):
                expected = by_hand.arrival_of_all(numbers_of(route), start)
                self.assertEqual(route(start), expected)
                self.assertEqual(route(time=start), expected)

    def test_sixty_legs(self):
        route = Route.of(sixty_legs())
        for start in (-25, -1, 0, 1, 24):
            self.assertEqual(route(start), by_hand.arrival_of_all(numbers_of(route), start))

    def test_departures_leg_by_leg(self):
        for legs in SMALL_ROUTES + (sixty_legs(),):
            route = Route(*legs)
            for start in (-25, -8, -1, 0, 1, 2, 11, 24):
                expected, time = [], start
                for every, at, ride in numbers_of(route):
                    departure = by_hand.departure(every, at, time)
                    time = departure + ride
                    expected.append((departure, time))
                found = list(route.departures(start))
                self.assertEqual(found, expected)
                self.assertTrue(all(type(pair) is tuple for pair in found))
                self.assertEqual(list(route.departures(time=start)), expected)

    def test_departures_yields(self):
        route = Route(Line(12, 5, 20), Walk(3), Stop(4, 1))
        self.assertTrue(inspect.isgenerator(route.departures(0)))

    def test_departures_stopped_early(self):
        route = Route(Line(12, 5, 20), Walk(3), Stop(4, 1))
        walked = route.departures(0)
        self.assertEqual(next(walked), (5, 25))
        self.assertEqual(next(walked), (25, 28))
        walked.close()
        self.assertEqual(list(route.departures(0)), [(5, 25), (25, 28), (29, 29)])

    def test_two_departures_at_the_same_time(self):
        route = Route(Line(12, 5, 20), Walk(3), Stop(4, 1))
        one, other = route.departures(0), route.departures(6)
        self.assertEqual([next(one), next(other), next(other), next(one), next(one), next(other)],
                         [(5, 25), (17, 37), (37, 40), (25, 28), (29, 29), (41, 41)])
        self.assertEqual([list(one), list(other)], [[], []])

    def test_great_numbers(self):
        route = Route.of(great_legs())
        for start in (-10 ** 60, -1, 0, 1, 10 ** 60):
            time = start
            for (departure, arrival), leg in zip(route.departures(start), route.legs):
                self.assertEqual((departure - leg.at) % leg.every, 0)
                self.assertIn(departure - time, range(leg.every))
                time = departure + leg.ride
                self.assertEqual(arrival, time)
            self.assertEqual(route(start), time)


class OneLine(unittest.TestCase):
    def test_for_all_starts_of_the_greatest_headway(self):
        for legs in SMALL_ROUTES + (sixty_legs(),):
            route = Route(*legs)
            line = route.line()
            self.assertIs(type(line), Line)
            self.assertEqual(line.KIND, "line")
            self.assertEqual(line.every, max(leg.every for leg in legs))
            for start in range(line.every):
                self.assertEqual(line(start), by_hand.arrival_of_all(numbers_of(route), start))

    def test_one_leg(self):
        for leg in (Walk(7), Stop(12, 5), Line(12, 5, 20)):
            line = Route(leg).line()
            self.assertIs(type(line), Line)
            self.assertEqual(line, leg)

    def test_known_lines(self):
        self.assertEqual(by_hand.numbers(Route(Walk(3), Line(4, 1, 6)).line()), (4, 2, 9))
        self.assertEqual(by_hand.numbers(Route(Walk(4), Line(15, 3, 7), Line(60, 20, 30)).line()), (60, 59, 51))

    def test_great_numbers(self):
        route = Route.of(great_legs())
        line = route.line()
        self.assertEqual(line.every, max(leg.every for leg in route.legs))
        for start in (-10 ** 60, -1, 0, 1, 10 ** 60, line.at, line.at + 1, line.at - 1):
            self.assertEqual(line(start), route(start))

    def test_the_travel_times_over_one_headway(self):
        for legs in SMALL_ROUTES:
            route = Route(*legs)
            line = route.line()
            travels = sorted(route(start) - start for start in range(-5, line.every - 5))
            self.assertEqual(travels, list(range(line.ride, line.ride + line.every)))

    def test_latest(self):
        for legs in SMALL_ROUTES:
            route = Route(*legs)
            for goal in range(-20, 21):
                expected = by_hand.latest(numbers_of(route), goal, 300)
                self.assertEqual(route.latest(goal), expected)
                self.assertEqual(route.latest(time=goal), expected)

    def test_latest_with_great_numbers(self):
        route = Route.of(great_legs())
        for goal in (-10 ** 60, 0, 10 ** 60, route(0), route(0) - 1):
            start = route.latest(goal)
            self.assertLessEqual(route(start), goal)
            self.assertGreater(route(start + 1), goal)


class OtherRoutes(unittest.TestCase):
    def test_sum(self):
        for one in SMALL_ROUTES:
            for other in SMALL_ROUTES:
                if not all(by_hand.fitting(leg.every, after.every) for leg in one for after in other):
                    continue
                joined = Route(*one) + Route(*other)
                self.assertIs(type(joined), Route)
                self.assertEqual(joined.legs, one + other)
                self.assertEqual([leg.KIND for leg in joined.legs], [leg.KIND for leg in one + other])
                self.assertEqual(joined(-7), Route(*other)(Route(*one)(-7)))

    def test_sum_up_to_sixty_legs(self):
        legs = sixty_legs()
        self.assertEqual((Route.of(legs[:25]) + Route.of(legs[25:])).legs, legs)
        for one, other in ((legs, [Walk(1)]), ([Walk(1)], legs), (legs[:31], legs[:30])):
            with self.assertRaises(InvalidRoute) as caught:
                Route.of(one) + Route.of(other)
            self.assertIs(type(caught.exception), InvalidRoute)

    def test_sum_that_is_no_route(self):
        for one, other in ((4, 6), (6, 4), (2, 3), (10 ** 59, 10 ** 59 - 1)):
            with self.assertRaises(InvalidRoute) as caught:
                Route(Line(one, 0, 0)) + Route(Line(other, 0, 0))
            self.assertIs(type(caught.exception), InvalidRoute)

    def test_sum_with_what_is_no_route(self):
        for odd in by_hand.any_objects():
            if isinstance(odd, Route):
                continue
            with self.subTest(odd=odd), self.assertRaises(InvalidRoute) as caught:
                Route(Walk(5)) + odd
            self.assertIs(type(caught.exception), InvalidRoute)

    def test_backward(self):
        route = Route(Walk(3), Line(4, 1, 6), Stop(12, 5))
        self.assertEqual(numbers_of(route.backward()), [(12, 7, 0), (4, 1, 6), (1, 0, 3)])
        for legs in SMALL_ROUTES + (sixty_legs(), great_legs()):
            route = Route(*legs)
            mirrored = route.backward()
            self.assertIs(type(mirrored), Route)
            self.assertEqual([type(leg) for leg in mirrored.legs], [Line] * len(legs))
            self.assertEqual(mirrored.backward().legs, legs)
            self.assertEqual(mirrored.line(), route.line().backward())
            for time in (-12, -1, 0, 1, 5, 10 ** 60):
                self.assertEqual(mirrored(-time), -route.latest(time))

    def test_part(self):
        for legs in SMALL_ROUTES + (great_legs(),):
            route = Route(*legs)
            for first in range(len(legs)):
                for last in range(first, len(legs)):
                    part = route.part(first, last)
                    self.assertIs(type(part), Route)
                    self.assertEqual(part.legs, legs[first:last + 1])
                    self.assertEqual([type(leg) for leg in part.legs],
                                     [type(leg) for leg in legs[first:last + 1]])
        self.assertEqual(Route.of(sixty_legs()).part(last=59, first=0).legs, sixty_legs())

    def test_part_out_of_range(self):
        route = Route(Walk(3), Line(4, 1, 6), Stop(12, 5))
        for first, last in ((-1, 0), (0, 3), (1, 0), (2, 1), (3, 3), (-1, -1), (-3, -1), (0, -1),
                            (-10 ** 60, 10 ** 60), (0, 10 ** 60), (10 ** 60, 10 ** 60), (1, -1)):
            with self.subTest(first=first, last=last), self.assertRaises(InvalidIndex) as caught:
                route.part(first, last)
            self.assertIs(type(caught.exception), InvalidIndex)

    def test_part_with_what_is_no_integer(self):
        route = Route(Walk(3), Line(4, 1, 6), Stop(12, 5))
        for odd in ODD_INDICES:
            for first, last in ((odd, 1), (0, odd), (odd, odd)):
                with self.subTest(odd=odd), self.assertRaises(InvalidIndex):
                    route.part(first, last)


if __name__ == "__main__":
    unittest.main()
