"""Points 3, 4 and 10: the best departure of one leg of a route."""

import random
import unittest

import by_hand
from by_hand import SMALL_ROUTES, great_legs, numbers_of, raised, sixty_legs
from onwardlines.errors import InvalidIndex, InvalidLine, InvalidNumber
from onwardlines.free import best_ride, count_best, is_best, nth_best, with_departure
from onwardlines.lines import Line, Stop, Walk
from onwardlines.routes import Route

FACTOR = 10 ** 57 + 31


def random_routes():
    """Routes of up to five legs, with headways of a chain each."""
    chosen = random.Random(11)
    routes = []
    for chain in ((1, 2, 4, 12), (1, 3, 6, 12), (2, 8), (5, 10), (6,), (4, 12), (1, 9)):
        for many in (1, 2, 3, 3, 3, 4, 5):
            everies = [chosen.choice(chain) for _ in range(many)]
            routes.append([Line(every, chosen.randrange(every), chosen.randrange(15)) for every in everies])
    return routes


ROUTES = list(SMALL_ROUTES) + random_routes()


def least_travel(lines):
    """The least time from a start to the end, over all starts."""
    greatest = max(every for every, _, _ in lines)
    return min(by_hand.arrival_of_all(lines, start) - start for start in range(greatest))


def rides_by_departure(legs, index):
    """The least travel time of the route for each departure of a leg."""
    lines = [by_hand.numbers(leg) for leg in legs]
    every, _, ride = lines[index]
    return [least_travel(lines[:index] + [(every, at, ride)] + lines[index + 1:]) for at in range(every)]


class WithDeparture(unittest.TestCase):
    def test_the_legs_afterwards(self):
        for legs in ROUTES + [sixty_legs(), great_legs()]:
            route = Route(*legs)
            for index in range(len(legs)):
                for at in (0, legs[index].every // 2, legs[index].every - 1):
                    changed = with_departure(route, index, at)
                    expected = numbers_of(route)
                    expected[index] = (legs[index].every, at, legs[index].ride)
                    self.assertIs(type(changed), Route)
                    self.assertEqual(numbers_of(changed), expected)
                    kinds = [type(leg) for leg in legs]
                    kinds[index] = Line
                    self.assertEqual([type(leg) for leg in changed.legs], kinds)
            self.assertEqual(route.legs, legs)
            self.assertEqual([leg.KIND for leg in route.legs], [leg.KIND for leg in legs])

    def test_by_name(self):
        changed = with_departure(at=2, index=1, route=Route(Walk(3), Stop(4, 1)))
        self.assertEqual([leg.text() for leg in changed.legs], ["walk 3", "every 4 from 2 ride 0"])
        self.assertEqual(with_departure(Route(Walk(3)), 0, 0).legs[0].text(), "every 1 from 0 ride 3")

    def test_what_is_no_departure(self):
        route = Route(Walk(3), Line(15, 3, 7), Stop(30, 4))
        for odd in by_hand.odd_objects() + [-1, 15, 16, 10 ** 60, -10 ** 60, Walk(1)]:
            with self.subTest(odd=odd):
                self.assertIs(raised(lambda: with_departure(route, 1, odd)), InvalidLine)
        for index, at in ((0, 1), (0, -1), (2, 30), (2, -30)):
            self.assertIs(raised(lambda: with_departure(route, index, at)), InvalidLine)
        self.assertEqual(numbers_of(route), [(1, 0, 3), (15, 3, 7), (30, 4, 0)])


class Best(unittest.TestCase):
    def test_known_route(self):
        route = Route(Line(60, 20, 30), Line(30, 0, 7), Line(60, 0, 5))
        self.assertEqual(best_ride(route, 1), 45)
        self.assertEqual(count_best(route, 1), 4)
        self.assertEqual([nth_best(route, 1, number) for number in range(4)], [20, 21, 22, 23])
        self.assertEqual([at for at in range(-30, 60) if is_best(route, 1, at)], [20, 21, 22, 23])
        around = Route(Line(60, 58, 30), Line(30, 0, 0), Line(60, 31, 5))
        self.assertEqual([nth_best(around, 1, number) for number in range(4)], [0, 1, 28, 29])

    def test_against_all_departures(self):
        for legs in ROUTES:
            route = Route(*legs)
            for index in range(len(legs)):
                rides = rides_by_departure(legs, index)
                best = [at for at, ride in enumerate(rides) if ride == min(rides)]
                self.assertEqual(best_ride(route, index), min(rides))
                self.assertEqual(count_best(route, index), len(best))
                self.assertEqual([nth_best(route, index, number) for number in range(len(best))], best)
                for at in range(-3, len(rides) + 3):
                    self.assertIs(is_best(route, index, at), at in best)

    def test_against_the_lines_of_the_routes(self):
        legs = sixty_legs()
        route = Route(*legs)
        for index in (0, 2, 12, 29, 41, 59):
            rides = [with_departure(route, index, at).line().ride for at in range(legs[index].every)]
            best = [at for at, ride in enumerate(rides) if ride == min(rides)]
            self.assertEqual(best_ride(route, index), min(rides))
            self.assertEqual([nth_best(route, index, number) for number in range(count_best(route, index))], best)

    def test_by_name(self):
        route = Route(Line(60, 20, 30), Line(30, 0, 7), Line(60, 0, 5))
        self.assertEqual((best_ride(index=1, route=route), count_best(index=1, route=route)), (45, 4))
        self.assertEqual((is_best(at=21, index=1, route=route), nth_best(number=1, index=1, route=route)), (True, 21))

    def test_any_object_may_be_asked_for(self):
        for route in (Route(Line(15, 3, 7)), Route(Walk(3), Line(2, 0, 1), Line(4, 1, 6)), Route(Walk(1))):
            for odd in by_hand.odd_objects() + [Line(15, 3, 7), Walk(0), -1, 15, 10 ** 60, -10 ** 60]:
                with self.subTest(odd=odd):
                    self.assertIs(is_best(route, 0, odd), False)
        self.assertIs(is_best(Route(Walk(1)), 0, 0), True)
        self.assertIs(is_best(Route(Walk(1)), 0, 1), False)


class GreatNumbers(unittest.TestCase):
    def great_routes(self):
        routes = [[by_hand.many_times(leg, FACTOR) for leg in legs] for legs in ROUTES]
        return routes + [great_legs(), [by_hand.many_times(leg, FACTOR) for leg in sixty_legs()]]

    def test_the_best_ride_is_reached(self):
        for legs in self.great_routes():
            route = Route(*legs)
            for index in range(0, len(legs), 1 + len(legs) // 8):
                many = count_best(route, index)
                found = [nth_best(route, index, number) for number in (0, many // 3, many // 2, many - 1)]
                self.assertEqual(found, sorted(found))
                for at in found:
                    self.assertIs(is_best(route, index, at), True)
                    self.assertEqual(with_departure(route, index, at).line().ride, best_ride(route, index))
                for number in (-1, many, many + 10 ** 60):
                    self.assertIs(raised(lambda: nth_best(route, index, number)), InvalidNumber)

    def test_what_stands_beside_the_best_ones(self):
        for legs in self.great_routes()[:-1]:
            route = Route(*legs)
            for index, leg in enumerate(legs):
                many = count_best(route, index)
                for number in (0, many // 2, many - 1):
                    at = nth_best(route, index, number)
                    for step in (-1, 1):
                        if not 0 <= at + step < leg.every:
                            continue
                        best = with_departure(route, index, at + step).line().ride == best_ride(route, index)
                        self.assertIs(is_best(route, index, at + step), best)
                        if best:
                            self.assertEqual(nth_best(route, index, number + step), at + step)

    def test_the_best_ride_many_times_as_long(self):
        for legs in ROUTES:
            small, great = Route(*legs), Route(*[by_hand.many_times(leg, FACTOR) for leg in legs])
            for index, leg in enumerate(legs):
                self.assertEqual(best_ride(great, index), FACTOR * best_ride(small, index))
                best = [at for at in range(leg.every) if is_best(small, index, at)]
                self.assertEqual([at for at in range(leg.every) if is_best(great, index, FACTOR * at)], best)


class Wrong(unittest.TestCase):
    def test_indices(self):
        for legs in ([Walk(7)], [Line(15, 3, 7), Line(60, 20, 30)], sixty_legs()):
            route = Route(*legs)
            for index in (-1, len(legs), -len(legs), 61, 10 ** 60, -10 ** 60):
                for wrong in (lambda: with_departure(route, index, 0), lambda: best_ride(route, index),
                              lambda: count_best(route, index), lambda: is_best(route, index, 0),
                              lambda: nth_best(route, index, 0)):
                    with self.subTest(index=index):
                        self.assertIs(raised(wrong), InvalidIndex)

    def test_numbers(self):
        route = Route(Line(60, 20, 30), Line(30, 0, 7), Line(60, 0, 5))
        for index in range(3):
            many = count_best(route, index)
            for number in (-1, many, many + 1, -many, 10 ** 60, -10 ** 60, True, None, "0"):
                self.assertIs(raised(lambda: nth_best(route, index, number)), InvalidNumber)

    def test_the_index_is_checked_first(self):
        route = Route(Line(15, 3, 7), Line(60, 20, 30))
        for odd in by_hand.odd_objects() + [-1, 60, 10 ** 60]:
            for index in (-1, 2):
                self.assertIs(raised(lambda: with_departure(route, index, odd)), InvalidIndex)
                self.assertIs(raised(lambda: is_best(route, index, odd)), InvalidIndex)
        for number in (-1, 10 ** 60):
            self.assertIs(raised(lambda: nth_best(route, 2, number)), InvalidIndex)

    def test_nothing_changes(self):
        route, odd = Route(Line(15, 3, 7), Walk(3), Stop(60, 20)), [3, [Walk(4)], {"a": [1]}]

        def answers():
            return [numbers_of(route), [leg.KIND for leg in route.legs],
                    [(best_ride(route, k), count_best(route, k), nth_best(route, k, 0)) for k in range(3)],
                    [is_best(route, 0, at) for at in range(15)], numbers_of(with_departure(route, 2, 7))]
        first = answers()
        self.assertIs(raised(lambda: with_departure(route, 0, odd)), InvalidLine)
        self.assertIs(is_best(route, 0, odd), False)
        self.assertEqual(odd, [3, [Walk(4)], {"a": [1]}])
        self.assertEqual(answers(), first)


if __name__ == "__main__":
    unittest.main()
