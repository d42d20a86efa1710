"""Points 3 and 6: lines, walks and stops."""

import unittest

import by_hand
from onwardlines import lines
from onwardlines.errors import InvalidLine, InvalidNumber, NotFitting
from onwardlines.lines import Line, Stop, Walk

GREAT = 10 ** 59 + 7
SMALL_LINES = by_hand.all_lines((1, 2, 3, 4, 5, 7), (0, 1, 4, 9))
FITTING_LINES = by_hand.all_lines((1, 2, 3, 4, 6, 12), (0, 1, 5, 14))


class Making(unittest.TestCase):
    def test_numbers_and_kinds(self):
        self.assertEqual(by_hand.numbers(Line(15, 3, 7)), (15, 3, 7))
        self.assertEqual(by_hand.numbers(Walk(7)), (1, 0, 7))
        self.assertEqual(by_hand.numbers(Stop(15, 3)), (15, 3, 0))
        self.assertEqual([Line.KIND, Walk.KIND, Stop.KIND], ["line", "walk", "stop"])
        self.assertEqual([Line(2, 1, 0).KIND, Walk(0).KIND, Stop(1, 0).KIND], ["line", "walk", "stop"])

    def test_edges_that_are_valid(self):
        for made in (Line(1, 0, 0), Line(5, 4, 0), Line(5, 0, 10 ** 60), Line(10 ** 60, 10 ** 60 - 1, 3),
                     Walk(0), Walk(10 ** 60), Stop(1, 0), Stop(7, 6), Line(10 ** 70, 10 ** 69, 10 ** 71)):
            self.assertIsInstance(made, Line)

    def test_integers_out_of_range(self):
        for every, at, ride in ((0, 0, 0), (-1, 0, 0), (-5, -6, 0), (5, 5, 0), (5, 6, 0), (5, -1, 0),
                                (5, 0, -1), (1, 1, 0), (10 ** 60, 10 ** 60, 0), (1, 0, -10 ** 60)):
            with self.subTest(every=every, at=at, ride=ride), self.assertRaises(InvalidLine) as caught:
                Line(every, at, ride)
            self.assertIs(type(caught.exception), InvalidLine)
        for ride in (-1, -10 ** 60):
            with self.subTest(ride=ride), self.assertRaises(InvalidLine):
                Walk(ride)
        for every, at in ((0, 0), (-3, 0), (3, 3), (3, -1), (3, 10 ** 60)):
            with self.subTest(every=every, at=at), self.assertRaises(InvalidLine):
                Stop(every, at)

    def test_objects_that_are_no_integers(self):
        for odd in by_hand.odd_objects() + [Line(15, 3, 7), Walk(5), Stop(15, 3)]:
            for made in (lambda: Line(odd, 0, 0), lambda: Line(5, odd, 0), lambda: Line(5, 0, odd),
                         lambda: Line(odd, odd, odd), lambda: Line(0, odd, -1), lambda: Walk(odd),
                         lambda: Stop(odd, 0), lambda: Stop(5, odd), lambda: Stop(odd, odd)):
                with self.subTest(odd=odd), self.assertRaises(InvalidLine) as caught:
                    made()
                self.assertIs(type(caught.exception), InvalidLine)

    def test_booleans_are_no_integers(self):
        for made in (lambda: Line(True, 0, 3), lambda: Line(5, True, 3), lambda: Line(5, False, 3),
                     lambda: Line(5, 0, True), lambda: Line(5, 0, False), lambda: Walk(True),
                     lambda: Walk(False), lambda: Stop(True, 0), lambda: Stop(5, True), lambda: Stop(5, False)):
            with self.assertRaises(InvalidLine):
                made()

    def test_by_name(self):
        self.assertEqual(by_hand.numbers(Line(ride=7, at=3, every=15)), (15, 3, 7))
        self.assertEqual(by_hand.numbers(Walk(ride=7)), (1, 0, 7))
        self.assertEqual(by_hand.numbers(Stop(at=3, every=15)), (15, 3, 0))

    def test_where_the_classes_and_methods_stand(self):
        for made, base in ((Line, object), (Walk, Line), (Stop, Line)):
            self.assertEqual(made.__bases__, (base,))
            self.assertEqual(made.__module__, "onwardlines.lines")
            self.assertIn("text", vars(made))
        names = ("every", "at", "ride", "__call__", "departure", "latest", "starts", "__add__",
                 "__mul__", "never_later", "__eq__", "backward", "text", "KIND")
        for name in names:
            self.assertIn(name, vars(Line))
        for name in names[:-2]:
            self.assertNotIn(name, vars(Walk))
            self.assertNotIn(name, vars(Stop))
        for name in ("every", "at", "ride"):
            self.assertIsInstance(vars(Line)[name], property)

    def test_lines_do_not_change(self):
        for made in (Line(15, 3, 7), Walk(7), Stop(15, 3)):
            for name in ("every", "at", "ride"):
                with self.assertRaises(AttributeError):
                    setattr(made, name, 1)


class Calls(unittest.TestCase):
    def test_arrivals_and_departures_minute_by_minute(self):
        for line in SMALL_LINES:
            every, at, ride = by_hand.numbers(line)
            for start in range(-16, 17):
                departure = by_hand.departure(every, at, start)
                self.assertEqual(line.departure(start), departure, (line.text(), start))
                self.assertEqual(line(start), departure + ride, (line.text(), start))

    def test_latest_minute_by_minute(self):
        for line in SMALL_LINES:
            for goal in range(-16, 17):
                expected = by_hand.latest([by_hand.numbers(line)], goal, 40)
                self.assertEqual(line.latest(goal), expected, (line.text(), goal))

    def test_starts_minute_by_minute(self):
        for line in SMALL_LINES:
            every, at, ride = by_hand.numbers(line)
            found = {}
            for start in range(-50, 51):
                found.setdefault(by_hand.arrival(every, at, ride, start), []).append(start)
            for goal in range(-16, 17):
                expected = (found[goal][0], found[goal][-1]) if goal in found else None
                self.assertEqual(line.starts(goal), expected, (line.text(), goal))

    def test_walks_and_stops(self):
        for time in (-100, -1, 0, 1, 99, GREAT, -GREAT):
            self.assertEqual(Walk(7)(time), time + 7)
            self.assertEqual(Walk(7).departure(time), time)
            self.assertEqual(Walk(7).latest(time), time - 7)
            self.assertEqual(Walk(7).starts(time), (time - 7, time - 7))
        self.assertEqual([Stop(15, 3)(time) for time in (-13, -12, -11, 3, 4)], [-12, -12, 3, 3, 18])
        self.assertEqual([Stop(15, 3).latest(time) for time in (-13, -12, 2, 3, 4)], [-27, -12, -12, 3, 3])
        self.assertEqual([Stop(15, 3).starts(time) for time in (-12, 2, 3)], [(-26, -12), None, (-11, 3)])

    def test_great_numbers(self):
        every, at, ride = 10 ** 59, 10 ** 58 + 5, 10 ** 60 - 1
        line = Line(every, at, ride)
        for turns in (-10 ** 60, -3, 0, 1, 10 ** 60):
            leave = at + turns * every
            self.assertEqual(line.departure(leave), leave)
            self.assertEqual(line.departure(leave - 1), leave)
            self.assertEqual(line.departure(leave + 1), leave + every)
            self.assertEqual(line.departure(leave + 1 - every), leave)
            self.assertEqual(line(leave - 2), leave + ride)
            self.assertEqual(line.latest(leave + ride), leave)
            self.assertEqual(line.latest(leave + ride - 1), leave - every)
            self.assertEqual(line.latest(leave + ride + every - 1), leave)
            self.assertEqual(line.starts(leave + ride), (leave - every + 1, leave))
            self.assertIsNone(line.starts(leave + ride + 1))
            self.assertIsNone(line.starts(leave + ride - 1))

    def test_by_name(self):
        line = Line(15, 3, 7)
        self.assertEqual(line(time=4), 25)
        self.assertEqual(line.departure(time=4), 18)
        self.assertEqual(line.latest(time=30), 18)
        self.assertEqual(line.starts(time=25), (4, 18))


class Sums(unittest.TestCase):
    def test_against_one_ride_after_another(self):
        for one in FITTING_LINES:
            for other in FITTING_LINES:
                if not by_hand.fitting(one.every, other.every):
                    continue
                joined = one + other
                greater = max(one.every, other.every)
                self.assertEqual(joined.every, greater)
                self.assertIs(type(joined), Line)
                for start in range(greater):
                    self.assertEqual(joined(start), other(one(start)), (one.text(), other.text(), start))

    def test_by_hand_below_zero_too(self):
        for one, other in (((4, 3, 5), (12, 1, 2)), ((12, 1, 2), (4, 3, 5)), ((6, 5, 0), (6, 4, 1)),
                           ((1, 0, 3), (6, 4, 1)), ((6, 4, 1), (1, 0, 3))):
            joined = Line(*one) + Line(*other)
            for start in range(-30, 31):
                self.assertEqual(joined(start), by_hand.arrival_of_all([one, other], start))

    def test_walks_and_stops_give_lines(self):
        for joined, expected in ((Walk(3) + Walk(4), (1, 0, 7)), (Stop(4, 1) + Stop(4, 1), (4, 1, 0)),
                                 (Stop(4, 1) + Stop(8, 5), (8, 5, 0)), (Walk(3) + Stop(4, 1), (4, 2, 3)),
                                 (Stop(4, 1) + Walk(3), (4, 1, 3)), (Walk(0) + Walk(0), (1, 0, 0))):
            self.assertEqual(by_hand.numbers(joined), expected)
            self.assertIs(type(joined), Line)
            self.assertEqual(joined.KIND, "line")

    def test_great_numbers(self):
        small, great = 10 ** 29 + 1, (10 ** 29 + 1) * (10 ** 30)
        for one, other in ((Line(small, 17, 10 ** 60 - 3), Line(great, small * 5 + 2, 8)),
                           (Line(great, small * 5 + 2, 8), Line(small, 17, 10 ** 60 - 3)),
                           (Line(great, great - 1, 10 ** 59), Line(great, 0, 1))):
            joined = one + other
            self.assertEqual(joined.every, great)
            for start in (-GREAT, -1, 0, 1, joined.at, joined.at + 1, GREAT):
                self.assertEqual(joined(start), other(one(start)))

    def test_what_is_no_line(self):
        for odd in by_hand.odd_objects() + [0, 5, -10 ** 60]:
            for line in (Line(15, 3, 7), Walk(5), Stop(15, 3)):
                with self.subTest(odd=odd), self.assertRaises(InvalidLine) as caught:
                    line + odd
                self.assertIs(type(caught.exception), InvalidLine)

    def test_headways_that_do_not_fit(self):
        for every, other in ((2, 3), (4, 6), (6, 4), (10 ** 59, 10 ** 59 - 1), (15, 40)):
            for right in (Line(other, 1, 2), Stop(other, 1)):
                with self.subTest(every=every, other=other), self.assertRaises(NotFitting) as caught:
                    Line(every, 1, 2) + right
                self.assertIs(type(caught.exception), NotFitting)


class Repeats(unittest.TestCase):
    def test_against_one_ride_after_another(self):
        for line in by_hand.all_lines((1, 2, 3, 5, 6), (0, 1, 5, 6, 14)):
            for number in (1, 2, 3, 10):
                repeated = line * number
                self.assertIs(type(repeated), Line)
                self.assertEqual(repeated.every, line.every)
                for start in range(-line.every, line.every):
                    expected = by_hand.arrival_of_all([by_hand.numbers(line)] * number, start)
                    self.assertEqual(repeated(start), expected, (line.text(), number, start))

    def test_the_greatest_number(self):
        many = 10 ** 30
        self.assertEqual(by_hand.numbers(Line(15, 3, 7) * many), (15, 3, 15 * many - 8))
        self.assertEqual(by_hand.numbers(Line(15, 3, 15) * many), (15, 3, 15 * many))
        self.assertEqual(by_hand.numbers(Line(15, 3, 16) * many), (15, 3, 30 * many - 14))
        self.assertEqual(by_hand.numbers(Walk(7) * many), (1, 0, 7 * many))
        self.assertEqual(by_hand.numbers(Stop(15, 3) * many), (15, 3, 0))
        line = Line(10 ** 58, GREAT - 10 ** 59, 10 ** 60 - 1)
        self.assertEqual(line * many, (line * 10 ** 15) * 10 ** 15)
        self.assertEqual(line * many, line * (many - 1) + line)

    def test_all_kinds_give_lines(self):
        for line in (Line(15, 3, 7), Walk(5), Stop(15, 3)):
            for number in (1, 2, 10 ** 30):
                self.assertIs(type(line * number), Line)
            self.assertEqual(line * 1, line)

    def test_numbers_that_are_refused(self):
        refused = [0, -1, -10 ** 30, 10 ** 30 + 1, 10 ** 31, 10 ** 60, 10 ** 90]
        for number in refused + by_hand.odd_objects() + [Line(15, 3, 7), Walk(1), Stop(15, 3)]:
            for line in (Line(15, 3, 7), Walk(5), Stop(15, 3)):
                with self.subTest(number=number), self.assertRaises(InvalidNumber) as caught:
                    line * number
                self.assertIs(type(caught.exception), InvalidNumber)


class NeverLater(unittest.TestCase):
    def test_against_all_starts(self):
        answers = {True: 0, False: 0}
        compared = by_hand.all_lines((1, 2, 3, 4, 6, 12), (0, 1, 4, 9, 16))
        for one in compared:
            for other in compared:
                if not by_hand.fitting(one.every, other.every):
                    continue
                expected = all(one(start) <= other(start) for start in range(max(one.every, other.every)))
                answer = one.never_later(other)
                self.assertIs(answer, expected, (one.text(), other.text()))
                answers[answer] += 1
        self.assertGreater(answers[True], 1000)
        self.assertGreater(answers[False], 1000)

    def test_great_numbers(self):
        small, great = 10 ** 29, 10 ** 59
        self.assertIs(Line(small, 5, 10).never_later(Line(great, 7 * small + 5, 10)), True)
        self.assertIs(Line(small, 5, 11).never_later(Line(great, 7 * small + 5, 10)), False)
        self.assertIs(Line(small, 6, 10).never_later(Line(great, 7 * small + 5, 11)), True)
        self.assertIs(Line(small, 6, 10).never_later(Line(great, 7 * small + 5, 10)), False)
        self.assertIs(Line(great, 7, 0).never_later(Line(small, 5, great - small + 2)), True)
        self.assertIs(Line(great, 7, 0).never_later(Line(small, 5, great - small + 1)), False)
        self.assertIs(Line(great, 7, 3).never_later(Line(great, 7, 3)), True)
        self.assertIs(Line(great, 8, 3).never_later(Line(great, 7, 3)), False)
        self.assertIs(Walk(great).never_later(Walk(great)), True)
        self.assertIs(Walk(great).never_later(Walk(great - 1)), False)

    def test_all_kinds_and_by_name(self):
        self.assertIs(Walk(0).never_later(other=Stop(15, 3)), True)
        self.assertIs(Stop(15, 3).never_later(Walk(14)), True)
        self.assertIs(Stop(15, 3).never_later(Walk(13)), False)

    def test_headways_that_do_not_fit(self):
        for one, other in ((Line(4, 1, 0), Line(6, 1, 90)), (Line(6, 1, 90), Stop(4, 1)),
                           (Stop(10 ** 59, 0), Line(10 ** 59 - 1, 0, 0))):
            with self.assertRaises(NotFitting) as caught:
                one.never_later(other)
            self.assertIs(type(caught.exception), NotFitting)


class Equality(unittest.TestCase):
    def test_lines_of_all_kinds_with_the_same_numbers(self):
        for same in ([Line(1, 0, 7), Walk(7)], [Line(15, 3, 0), Stop(15, 3)],
                     [Line(1, 0, 0), Walk(0), Stop(1, 0)], [Line(15, 3, 7), Line(15, 3, 7)],
                     [Line(10 ** 59, 5, GREAT), Line(10 ** 59, 5, GREAT)]):
            for one in same:
                for other in same:
                    self.assertIs(one == other, True)
                    self.assertIs(one != other, False)

    def test_lines_with_other_numbers(self):
        different = [Line(15, 3, 7), Line(15, 3, 8), Line(15, 4, 7), Line(30, 3, 7), Walk(7), Walk(8),
                     Stop(15, 3), Stop(15, 4), Stop(30, 3), Line(10 ** 59, 3, 7)]
        for at, one in enumerate(different):
            for other in different[:at] + different[at + 1:]:
                self.assertIs(one == other, False)
                self.assertIs(one != other, True)

    def test_objects_of_other_kinds_in_both_orders(self):
        for odd in by_hand.odd_objects() + [0, 7, 15, -10 ** 60, (15, 3, 7), [15, 3, 7], [Line(15, 3, 7)]]:
            for line in (Line(15, 3, 7), Walk(7), Stop(15, 3)):
                self.assertIs(line == odd, False)
                self.assertIs(odd == line, False)
                self.assertIs(line != odd, True)
                self.assertIs(odd != line, True)


class Backward(unittest.TestCase):
    def test_the_numbers(self):
        self.assertEqual(by_hand.numbers(Line(15, 3, 7).backward()), (15, 5, 7))
        self.assertEqual(by_hand.numbers(Line(15, 0, 0).backward()), (15, 0, 0))
        self.assertEqual(by_hand.numbers(Line(15, 8, 7).backward()), (15, 0, 7))
        self.assertEqual(by_hand.numbers(Walk(7).backward()), (1, 0, 7))
        self.assertEqual(by_hand.numbers(Stop(15, 3).backward()), (15, 12, 0))
        self.assertEqual(by_hand.numbers(Line(10 ** 59, 1, 10 ** 60).backward()), (10 ** 59, 10 ** 59 - 1, 10 ** 60))

    def test_all_kinds_give_lines(self):
        for line in (Line(15, 3, 7), Walk(5), Stop(15, 3)):
            self.assertIs(type(line.backward()), Line)

    def test_time_runs_the_other_way(self):
        for line in SMALL_LINES:
            mirrored = line.backward()
            for time in range(-12, 13):
                self.assertEqual(mirrored(-time), -line.latest(time))

    def test_twice(self):
        for line in SMALL_LINES + [Walk(5), Stop(15, 3), Line(10 ** 59, GREAT - 10 ** 59, GREAT)]:
            self.assertEqual(line.backward().backward(), line)


class Texts(unittest.TestCase):
    def test_each_kind(self):
        self.assertEqual(Line(15, 3, 7).text(), "every 15 from 3 ride 7")
        self.assertEqual(Walk(7).text(), "walk 7")
        self.assertEqual(Stop(15, 3).text(), "stop 15 from 3")

    def test_lines_that_are_like_walks_and_stops(self):
        self.assertEqual(Line(1, 0, 7).text(), "every 1 from 0 ride 7")
        self.assertEqual(Line(15, 3, 0).text(), "every 15 from 3 ride 0")
        self.assertEqual(Walk(0).text(), "walk 0")
        self.assertEqual(Stop(1, 0).text(), "stop 1 from 0")
        self.assertEqual(Walk(7).backward().text(), "every 1 from 0 ride 7")

    def test_great_numbers(self):
        great = "1" + 58 * "0" + "7"
        self.assertEqual(Walk(GREAT).text(), "walk " + great)
        self.assertEqual(Stop(GREAT, GREAT - 7).text(), "stop " + great + " from 1" + 59 * "0")
        for digits in (59, 60, 61, 119, 120, 121, 200):
            self.assertEqual(Walk(10 ** digits).text(), "walk 1" + digits * "0")
            self.assertEqual(Walk(10 ** digits - 1).text(), "walk " + digits * "9")

    def test_more_digits_than_python_writes_at_once(self):
        self.assertEqual(Walk(10 ** 5000 + 203).text(), "walk 1" + 4997 * "0" + "203")
        line = Walk(1)
        for _ in range(200):
            line = line * 10 ** 30
        self.assertEqual(line.text(), "every 1 from 0 ride 1" + 6000 * "0")


class Module(unittest.TestCase):
    def test_names_of_the_interface(self):
        for name in ("Line", "Walk", "Stop"):
            self.assertTrue(hasattr(lines, name))


if __name__ == "__main__":
    unittest.main()
