"""Points 3, 4 and 9: two lines compared."""

import random
import unittest

import by_hand
from by_hand import raised
from onwardlines.alike import count_starts, differences, first_earlier, worst_start
from onwardlines.errors import NotFitting
from onwardlines.lines import Line, Stop, Walk

CHAINS = ((1, 2, 4), (1, 3, 6), (2, 6), (5,), (1, 4, 8))
RIDES = (0, 1, 3, 7, 12)
FACTOR = 10 ** 57 + 31


def pairs():
    """Pairs of lines that fit, with all departures; the ride of the second one is often the same."""
    chosen = random.Random(9)
    for chain in CHAINS:
        for one in by_hand.all_lines(chain, (3,)):
            for other in by_hand.all_lines(chain, (3,)):
                yield (Line(one.every, one.at, chosen.choice(RIDES)), Line(other.every, other.at, chosen.choice(RIDES)))
                yield (one, other)
    yield (Walk(5), Walk(5))
    yield (Walk(5), Stop(6, 2))
    yield (Stop(6, 2), Walk(5))
    yield (Stop(6, 2), Stop(3, 1))
    yield (Stop(6, 2), Line(6, 2, 0))


def by_minutes(one, other, first, many):
    """The difference of the arrivals for each start."""
    return {start: by_hand.arrival(*by_hand.numbers(one), start) - by_hand.arrival(*by_hand.numbers(other), start)
            for start in range(first, first + many)}


def greater(one, other):
    return max(one.every, other.every)


class Differences(unittest.TestCase):
    def test_known_differences(self):
        bus, train = Line(15, 3, 7), Line(60, 20, 30)
        self.assertEqual(differences(bus, train), (-70, -10, 15))
        self.assertEqual(differences(train, bus), (10, 70, 15))
        self.assertEqual(differences(bus, Line(15, 3, 9)), (-2, -2, 0))
        self.assertEqual(differences(bus, Line(15, 4, 7)), (-1, 14, 15))
        self.assertEqual(differences(Walk(4), Walk(9)), (-5, -5, 0))
        self.assertEqual(differences(bus, bus), (0, 0, 0))

    def test_against_every_start(self):
        for one, other in pairs():
            values = sorted(set(by_minutes(one, other, 0, greater(one, other)).values()))
            found = differences(one, other)
            self.assertIs(type(found), tuple)
            self.assertEqual(found[:2], (values[0], values[-1]))
            self.assertEqual(found[2], 0 if len(values) == 1 else min(one.every, other.every))
            self.assertEqual(list(range(found[0], found[1] + 1, found[2] or 1)), values)
            self.assertEqual(differences(other=other, one=one), found)

    def test_great_numbers(self):
        for one, other in pairs():
            small = differences(one, other)
            great = differences(by_hand.many_times(one, FACTOR), by_hand.many_times(other, FACTOR))
            self.assertEqual(great, tuple(FACTOR * part for part in small))


class WorstStart(unittest.TestCase):
    def test_known_start(self):
        bus, train = Line(15, 3, 7), Line(60, 20, 30)
        self.assertEqual(worst_start(bus, train), 19)
        self.assertEqual(worst_start(train, bus), 21)
        self.assertEqual(worst_start(bus, bus), 0)
        self.assertEqual(worst_start(Walk(5), Line(9, 4, 1)), 4)

    def test_against_every_start(self):
        for one, other in pairs():
            values = by_minutes(one, other, 0, greater(one, other))
            expected = min(start for start in values if values[start] == max(values.values()))
            self.assertEqual(worst_start(one, other), expected)
            self.assertEqual(worst_start(other=other, one=one), expected)

    def test_great_numbers(self):
        for one, other in pairs():
            small = worst_start(one, other)
            great = worst_start(by_hand.many_times(one, FACTOR), by_hand.many_times(other, FACTOR))
            self.assertEqual(great, 0 if small == 0 else FACTOR * (small - 1) + 1)


class CountStarts(unittest.TestCase):
    def test_known_counts(self):
        bus, train = Line(15, 3, 7), Line(60, 20, 30)
        self.assertEqual(count_starts(bus, train), (60, 0, 0))
        self.assertEqual(count_starts(train, bus), (0, 0, 60))
        self.assertEqual(count_starts(bus, Line(15, 3, 7)), (0, 15, 0))
        self.assertEqual(count_starts(Walk(10), Line(60, 20, 0)), (49, 1, 10))

    def test_against_every_start(self):
        for one, other in pairs():
            values = list(by_minutes(one, other, -7, greater(one, other)).values())
            expected = (sum(each < 0 for each in values), values.count(0), sum(each > 0 for each in values))
            self.assertEqual(count_starts(one, other), expected)
            self.assertEqual(count_starts(other=other, one=one), expected)
            self.assertIs(type(count_starts(one, other)), tuple)

    def test_great_numbers(self):
        for one, other in pairs():
            small = count_starts(one, other)
            great = count_starts(by_hand.many_times(one, FACTOR), by_hand.many_times(other, FACTOR))
            self.assertEqual(great, tuple(FACTOR * part for part in small))


class FirstEarlier(unittest.TestCase):
    def test_known_starts(self):
        walk, bus = Walk(10), Line(60, 20, 0)
        self.assertEqual([first_earlier(walk, bus, time) for time in (-60, -40, -39, 0, 9, 10, 20, 21, 75)],
                         [-60, -39, -39, 0, 9, 21, 21, 21, 81])
        self.assertEqual([first_earlier(bus, walk, time) for time in (0, 10, 11, 20, 21, -100)],
                         [11, 11, 11, 20, 71, -100])
        self.assertIs(first_earlier(bus, Line(60, 20, 0), 5), None)
        self.assertIs(first_earlier(Walk(3), Walk(3), 5), None)
        self.assertEqual(first_earlier(Walk(2), Walk(3), -5), -5)

    def test_against_every_start(self):
        for one, other in pairs():
            for time in (-19, -6, -1, 0, 1, 2, 3, 5, 11):
                values = by_minutes(one, other, time, greater(one, other))
                expected = min((start for start in values if values[start] < 0), default=None)
                self.assertEqual(first_earlier(one, other, time), expected)
                self.assertEqual(first_earlier(time=time, other=other, one=one), expected)

    def test_great_numbers(self):
        for one, other in pairs():
            lines = (by_hand.many_times(one, FACTOR), by_hand.many_times(other, FACTOR))
            for block in (-13, -1, 0, 4):
                small = first_earlier(one, other, block)
                # All times behind the last block and up to this one have the same departures.
                later = None if small is None else FACTOR * (small - 1) + 1
                for time in (FACTOR * block, FACTOR * block - 5, FACTOR * (block - 1) + 1):
                    self.assertEqual(first_earlier(*lines, time), time if small == block else later)


class Headways(unittest.TestCase):
    def test_that_do_not_fit(self):
        for one, other in ((2, 3), (3, 2), (4, 6), (10, 4), (10 ** 59, 10 ** 59 - 1), (10 ** 60, 3)):
            lines = (Line(one, 1, 5), Stop(other, 0))
            for wrong in (lambda: differences(*lines), lambda: worst_start(*lines),
                          lambda: count_starts(*lines), lambda: first_earlier(*lines, 0)):
                with self.subTest(one=one, other=other):
                    self.assertIs(raised(wrong), NotFitting)

    def test_of_sixty_digits(self):
        great, middle = Line(7 * 10 ** 59, 10 ** 59 + 1, 0), Line(10 ** 40, 17, 10 ** 60 - 1)
        for one, other in ((great, middle), (middle, great), (great, Walk(10 ** 59)), (Walk(10 ** 59), great)):
            least, greatest, step = differences(one, other)
            start = worst_start(one, other)
            self.assertEqual(one(start) - other(start), greatest)
            self.assertEqual((greatest - least) % step, 0)
            self.assertTrue(0 <= start < greater(one, other))
            if start > 0:
                self.assertLess(one(start - 1) - other(start - 1), greatest)
            self.assertEqual(sum(count_starts(one, other)), great.every)
            for time in (-10 ** 60, 0, 10 ** 60):
                found = first_earlier(one, other, time)
                self.assertEqual(found is None, count_starts(one, other)[0] == 0)
                if found is not None:
                    self.assertLess(one(found), other(found))
                    self.assertTrue(found == time or one(found - 1) >= other(found - 1))

    def test_nothing_changes(self):
        lines = (Line(15, 3, 7), Line(60, 20, 30))

        def answers():
            return [differences(*lines), worst_start(*lines), count_starts(*lines), first_earlier(*lines, -3),
                    [by_hand.numbers(line) for line in lines], [line.KIND for line in lines]]
        first = answers()
        self.assertIs(raised(lambda: differences(lines[0], Line(7, 0, 0))), NotFitting)
        self.assertEqual(answers(), first)
        self.assertEqual(first[-2:], [[(15, 3, 7), (60, 20, 30)], ["line", "line"]])


if __name__ == "__main__":
    unittest.main()
