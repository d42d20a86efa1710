"""Point 12: lines that are taken again and again."""

import itertools
import unittest

import by_hand
from by_hand import numbers, raised
from onwardlines.errors import InvalidNumber
from onwardlines.lines import Line, Stop, Walk
from onwardlines.rounds import after_rounds, overtaken, rounds_until

GREAT = 10 ** 59 + 7
FACTOR = 10 ** 57 + 31
MOST = 10 ** 30
# Rides of 0, of multiples of a headway, and others just above and below these.
LINES = by_hand.all_lines((1, 2, 3, 5), (0, 1, 2, 3, 4, 5, 6, 9, 10)) + [Walk(0), Walk(3), Stop(1, 0), Stop(4, 3)]
STARTS = (-17, -6, -1, 0, 1, 2, 8)
WRONG_NUMBERS = (-1, -2, -MOST, MOST + 1, MOST * 10, 10 ** 59, 10 ** 60 - 1, 1 - 10 ** 60)


def rounds_by_hand(line, start, many):
    """The start and the arrivals after 1, 2 and so on rounds, each one taken minute by minute."""
    times = [start]
    for _ in range(many):
        times.append(by_hand.arrival(*numbers(line), times[-1]))
    return times


def first_above(one, other, start, many):
    """After how many rounds one arrives later than other, or None if it does not in so many."""
    pairs = zip(rounds_by_hand(one, start, many), rounds_by_hand(other, start, many))
    for number, (mine, theirs) in enumerate(pairs):
        if mine > theirs:
            return number
    return None


class AfterRounds(unittest.TestCase):
    def test_known_arrivals(self):
        bus = Line(15, 3, 7)
        self.assertEqual([after_rounds(bus, 4, number) for number in range(5)], [4, 25, 40, 55, 70])
        self.assertEqual(after_rounds(bus, 4, MOST), 25 + 15 * (MOST - 1))
        self.assertEqual([after_rounds(Line(15, 3, 15), 4, number) for number in range(4)], [4, 33, 48, 63])
        self.assertEqual([after_rounds(Line(15, 3, 16), 4, number) for number in range(4)], [4, 34, 64, 94])

    def test_one_by_one(self):
        for line in LINES:
            for start in STARTS:
                expected = rounds_by_hand(line, start, 7)
                self.assertEqual([after_rounds(line, start, number) for number in range(8)], expected)

    def test_no_ride(self):
        for number in (1, 2, 10 ** 15, MOST):
            self.assertEqual(after_rounds(Stop(15, 3), 4, number), 18)
            self.assertEqual(after_rounds(Line(15, 3, 0), -12, number), -12)
            self.assertEqual(after_rounds(Walk(0), -GREAT, number), -GREAT)
        self.assertEqual(after_rounds(Stop(15, 3), 4, 0), 4)

    def test_like_the_line_of_so_many_rounds(self):
        for line in LINES + by_hand.great_legs():
            for number in (1, 2, 3, 1000, 10 ** 29 + 1, MOST):
                for start in (-GREAT, -1, 0, 5):
                    self.assertEqual(after_rounds(line, start, number), (line * number)(start))

    def test_great_numbers(self):
        for line in LINES:
            great = by_hand.many_times(line, FACTOR)
            for start, number in itertools.product((-6, 0, 5), (0, 1, 2, 6)):
                expected = FACTOR * after_rounds(line, start, number)
                self.assertEqual(after_rounds(great, FACTOR * start, number), expected)
        every = 10 ** 60 - 1
        self.assertEqual(after_rounds(Line(every, every - 1, every), 1 - 10 ** 60, MOST), -1 + every * MOST)
        self.assertEqual(after_rounds(Walk(every), -every, MOST), every * (MOST - 1))

    def test_rounds_put_together(self):
        for line in LINES[::3] + by_hand.great_legs():
            for one, other in ((0, 0), (0, 3), (2, 0), (2, 3), (10 ** 29, 10 ** 29 + 5)):
                between = after_rounds(line, -7, one)
                self.assertEqual(after_rounds(line, between, other), after_rounds(line, -7, one + other))

    def test_wrong_numbers(self):
        for line in (Line(15, 3, 7), Walk(0), Stop(15, 3), Line(10 ** 59, 0, GREAT)):
            for number in WRONG_NUMBERS:
                with self.subTest(line=line.text(), number=number):
                    self.assertIs(raised(lambda: after_rounds(line, 4, number)), InvalidNumber)
            for number in (0, 1, MOST - 1, MOST):
                self.assertIs(raised(lambda: after_rounds(line, 4, number)), None)


class RoundsUntil(unittest.TestCase):
    def test_known_numbers(self):
        bus = Line(15, 3, 7)
        goals = (-100, 3, 4, 5, 24, 25, 26, 40, 41, 55, 56)
        self.assertEqual([rounds_until(bus, 4, goal) for goal in goals], [0, 0, 0, 1, 1, 1, 2, 2, 3, 3, 4])

    def test_one_by_one(self):
        for line in LINES:
            for start in STARTS:
                times = rounds_by_hand(line, start, 25)
                for goal in range(start - 3, start + 22):
                    reached = [number for number, time in enumerate(times) if time >= goal]
                    expected = reached[0] if reached else None
                    self.assertEqual(rounds_until(line, start, goal), expected, (line.text(), start, goal))
                    self.assertEqual(expected is None, line.ride == 0 and goal > times[1])

    def test_no_ride(self):
        stop = Stop(15, 3)
        self.assertEqual([rounds_until(stop, 4, goal) for goal in (-GREAT, 4, 5, 18)], [0, 0, 1, 1])
        self.assertEqual([rounds_until(stop, 4, goal) for goal in (19, 33, GREAT)], [None, None, None])
        self.assertEqual([rounds_until(Walk(0), 4, goal) for goal in (3, 4, 5)], [0, 0, None])

    def test_just_at_an_arrival_and_one_behind(self):
        for line in LINES + [Line(10 ** 59, 5, GREAT), Line(3, 1, GREAT), Walk(GREAT), Line(GREAT, 5, 1)]:
            if line.ride == 0:
                continue
            for start in (-GREAT, -7, 0, 4, GREAT):
                for number in (1, 2, 3, 10 ** 12, MOST - 1):
                    arrival = after_rounds(line, start, number)
                    self.assertEqual(rounds_until(line, start, arrival), number)
                    self.assertEqual(rounds_until(line, start, arrival + 1), number + 1)

    def test_more_rounds_than_may_be_passed(self):
        self.assertEqual(rounds_until(Walk(1), 1 - 10 ** 60, 10 ** 60 - 1), 2 * 10 ** 60 - 2)
        self.assertEqual(rounds_until(Line(2, 1, 1), 0, 10 ** 60), 10 ** 60 // 2)

    def test_goals_at_and_below_the_start(self):
        for line in LINES + by_hand.great_legs():
            for start in (-10 ** 60 + 1, -1, 0, 1, GREAT):
                for goal in (start, start - 1, start - 10 ** 59):
                    self.assertEqual(rounds_until(line, start, goal), 0)


class Overtaken(unittest.TestCase):
    def test_known_numbers(self):
        self.assertEqual(overtaken(Walk(2), Walk(1), 0), 1)
        self.assertEqual(overtaken(Walk(1), Walk(2), 0), None)
        # The slow line loses one minute each round on one that it is ahead of.
        self.assertEqual([overtaken(Walk(11), Line(10, at, 10), 0) for at in (0, 1, 2, 9)], [1, 2, 3, 10])

    def test_one_by_one(self):
        found = {}
        for one, other in itertools.product(LINES, repeat=2):
            for start in (-8, 0, 1):
                expected = first_above(one, other, start, 20)
                answer = overtaken(one, other, start)
                self.assertEqual(answer, expected, (one.text(), other.text(), start))
                found[answer] = found.get(answer, 0) + 1
        self.assertGreater(found[None], 1000)
        self.assertGreater(found[1], 1000)
        self.assertGreater(sum(many for number, many in found.items() if number is not None and number > 3), 20)

    def test_the_same_line(self):
        for line in LINES + by_hand.great_legs():
            for start in (-GREAT, 0, 3):
                self.assertIs(overtaken(line, line, start), None)
                self.assertIs(overtaken(line, Line(*numbers(line)), start), None)

    def test_only_after_very_many_rounds(self):
        late = 10 ** 60 - 1
        self.assertEqual(overtaken(Walk(1), Stop(10 ** 60, late), 0), 10 ** 60)
        self.assertEqual(overtaken(Walk(GREAT + 1), Line(GREAT, GREAT - 1, GREAT), 0), GREAT)
        self.assertEqual(overtaken(Line(7, 0, 7), Line(6, 4, 6), -7), 6)
        self.assertEqual(overtaken(Line(7, 0, 7), Line(6, 4, 6 * 10 ** 50), -7), None)

    def test_least_with_great_numbers(self):
        lines = by_hand.great_legs() + [Walk(GREAT), Walk(1), Stop(GREAT, 5), Line(GREAT, 9, GREAT),
                                        Line(3, 2, 10 ** 59)]
        later = 0
        for one, other in itertools.product(lines, repeat=2):
            for start in (-10 ** 60 + 1, 0, GREAT):
                number = overtaken(one, other, start)
                if number is None or number > MOST:
                    for rounds in (1, 2, 3, 10 ** 10, MOST - 1, MOST):
                        self.assertLessEqual(after_rounds(one, start, rounds), after_rounds(other, start, rounds))
                    continue
                self.assertGreater(after_rounds(one, start, number), after_rounds(other, start, number))
                if number > 1:
                    later += 1
                    before = number - 1
                    self.assertLessEqual(after_rounds(one, start, before), after_rounds(other, start, before))
        self.assertGreater(later, 3)

    def test_everything_many_times_as_long(self):
        for one, other in itertools.product(LINES[::4], repeat=2):
            great = [by_hand.many_times(line, FACTOR) for line in (one, other)]
            self.assertEqual(overtaken(*great, -3 * FACTOR), overtaken(one, other, -3))


class Rules(unittest.TestCase):
    def test_by_name(self):
        bus, walk = Line(15, 3, 7), Walk(14)
        self.assertEqual(after_rounds(number=3, time=4, line=bus), 55)
        self.assertEqual(rounds_until(goal=56, line=bus, time=4), 4)
        self.assertEqual(overtaken(time=4, other=walk, one=bus), 1)
        self.assertEqual(overtaken(time=4, other=bus, one=walk), None)

    def test_lines_stay_and_answers_too(self):
        bus, walk = Line(15, 3, 7), Walk(16)

        def answers():
            return [after_rounds(bus, 4, 3), rounds_until(bus, 4, 99), overtaken(walk, bus, 4),
                    raised(lambda: after_rounds(bus, 4, -1)), numbers(bus), numbers(walk), bus.KIND, walk.KIND]
        first = answers()
        self.assertEqual(answers(), first)
        self.assertEqual(first[4:], [(15, 3, 7), (1, 0, 16), "line", "walk"])

    def test_results_may_be_passed_back(self):
        line = Line(10 ** 59, 5, 10 ** 60 - 1)
        time = 0
        for _ in range(4):
            time = after_rounds(line, time, MOST)
        self.assertEqual(rounds_until(line, 0, time), 4 * MOST)
        self.assertEqual(overtaken(Walk(time), Walk(time - 1), time), 1)


if __name__ == "__main__":
    unittest.main()
