"""Point 2: what holds for all functions and classes."""

import unittest

import by_hand
from onwardlines.errors import InvalidLine, InvalidNumber, InvalidRoute, NotFitting
from onwardlines.lines import Line, Stop, Walk
from onwardlines.routes import Route
from onwardlines.whole import all_fit, is_integer, written


def answers(line, other, route):
    """The results of one call of everything, as plain values."""
    results = [line, line + other, line * 12, line.backward(), route.line()]
    results.extend(route.legs + route.backward().legs + route.part(0, 1).legs + (route + route).legs)
    plain = [(made.KIND, made.every, made.at, made.ride) for made in results]
    return plain + [line(-3), line.departure(-3), line.latest(-3), line.starts(-3), line.starts(22),
                    line.never_later(other), line == other, line.text(), other.text(),
                    route(-3), len(route), route.latest(-3), list(route.departures(-3))]


class EqualResults(unittest.TestCase):
    def test_equal_calls(self):
        def made():
            line, other = Line(15, 3, 7), Stop(60, 20)
            return answers(line, other, Route(line, Walk(4), other))
        self.assertEqual(made(), made())

    def test_objects_stay_as_they_were(self):
        line, other = Line(15, 3, 7), Stop(60, 20)
        route = Route(line, Walk(4), other)
        first = answers(line, other, route)
        for wrong in (lambda: line + 5, lambda: line * 0, lambda: line + Walk(1) + Line(7, 0, 0),
                      lambda: route + route.legs, lambda: route.part(2, 1),
                      lambda: route + Route(Line(7, 0, 0)), lambda: line.never_later(Line(7, 0, 0))):
            with self.assertRaises(ValueError):
                wrong()
        self.assertEqual(answers(line, other, route), first)

    def test_arguments_are_not_modified(self):
        legs = [Line(15, 3, 7), Walk(4)]
        Route.of(legs).backward()
        self.assertEqual(legs, [Line(15, 3, 7), Walk(4)])
        odd = [3, [Walk(4)], {"a": [1]}]
        for wrong in (lambda: Route.of(odd), lambda: Line(odd, 1, 1), lambda: Walk(odd)):
            with self.assertRaises(ValueError):
                wrong()
        self.assertEqual(odd, [3, [Walk(4)], {"a": [1]}])


class WhichError(unittest.TestCase):
    def test_no_line_comes_before_headways_that_do_not_fit(self):
        for odd in ([Line(7, 0, 0)], Route(Line(7, 0, 0)), (7, 0, 0), True):
            with self.assertRaises(InvalidLine):
                Line(15, 3, 7) + odd
        with self.assertRaises(NotFitting):
            Line(15, 3, 7) + Line(7, 0, 0)

    def test_several_wrong_arguments(self):
        with self.assertRaises(InvalidLine):
            Line(0, -1, None)
        with self.assertRaises(InvalidLine):
            Stop("", True)
        with self.assertRaises(InvalidRoute):
            Route.of([None, 5, Line(2, 0, 0), Line(3, 0, 0)] + [Walk(1)] * 70)

    def test_no_error_is_of_another_class(self):
        for wrong, expected in ((lambda: Line(True, 0, 0), InvalidLine), (lambda: Route(), InvalidRoute),
                                (lambda: Walk(1) * False, InvalidNumber), (lambda: Walk(1) * "2", InvalidNumber),
                                (lambda: Route(Walk(1)) + 1, InvalidRoute), (lambda: Walk(1) + 1, InvalidLine)):
            with self.assertRaises(expected) as caught:
                wrong()
            self.assertIs(type(caught.exception), expected)


class MoreDigits(unittest.TestCase):
    def test_results_may_be_passed_back(self):
        line = Line(10 ** 59, 10 ** 59 - 1, 10 ** 60 - 1)
        for _ in range(3):
            line = line * 10 ** 30
        time = line(10 ** 60)
        self.assertGreater(time, 10 ** 150)
        self.assertEqual(line.latest(time), line.starts(time)[1])
        self.assertEqual(line(line.latest(time)), time)
        copied = Line(line.every, line.at, line.ride)
        self.assertEqual(copied, line)
        self.assertEqual(Route(copied, Walk(line.ride)).line().ride, 2 * line.ride)
        self.assertEqual(Walk(line.ride).text(), "walk " + str(line.ride))


class Whole(unittest.TestCase):
    def test_is_integer(self):
        for number in (0, 1, -1, 10 ** 60, -10 ** 200):
            self.assertIs(is_integer(number), True)
        for odd in by_hand.odd_objects() + [Walk(1)]:
            self.assertIs(is_integer(odd), False)

    def test_all_fit(self):
        for headways in ([1], [7, 7], [12, 1, 4], [3, 6], [10 ** 60, 10 ** 30, 5]):
            self.assertIs(all_fit(headways), True)
        for headways in ([2, 3], [6, 2, 3], [4, 12, 6], [10 ** 60, 3]):
            self.assertIs(all_fit(headways), False)

    def test_written(self):
        for number in (0, 9, 10, 10 ** 59, 10 ** 60 - 1, 10 ** 60, 10 ** 60 + 1, 10 ** 4000 + 5, 7 ** 3000):
            self.assertEqual(written(number), str(number))


if __name__ == "__main__":
    unittest.main()
