"""Points 3, 4 and 11: plans, their timetables, and the certificates where there are none."""

import itertools
import random
import unittest

import plans_by_hand
from by_hand import raised
from onwardlines.errors import InvalidIndex, InvalidNumber, InvalidWishes, NotPossible
from onwardlines.plans import Plan

# One for each case that the document names.
NAMED = (
    ([(6, 5)], [], []),
    ([(1, 0)], [(0, 0, 3)], []),
    ([(6, 5)], [(0, 0, 1)], []),
    ([(6, 5)], [(0, 0, 2)], []),
    ([(6, 5)], [(0, 0, 2)], [(0, 3)]),
    ([(6, 5)], [(0, 0, 7)], [(0, 3)]),
    ([(6, 5), (3, 1)], [(0, 1, 2)], []),
    ([(6, 5), (3, 1)], [(0, 1, 2), (0, 1, 5)], []),
    ([(6, 5), (3, 1)], [(0, 1, 2), (0, 1, 3)], []),
    ([(6, 5), (3, 1)], [(0, 1, 2), (1, 0, 1)], []),
    ([(6, 5), (3, 1)], [(0, 1, 2), (1, 0, 3)], []),
    ([(6, 5), (6, 1)], [(0, 1, 2)], [(0, 0), (1, 1)]),
    ([(6, 5), (6, 1)], [(0, 1, 2)], [(0, 0), (1, 4)]),
    ([(6, 5), (6, 1), (2, 0)], [(0, 2, 1), (2, 1, 1)], [(0, 0), (1, 3)]),
    ([(6, 5), (6, 1), (2, 0)], [(0, 2, 1), (2, 1, 1)], [(0, 0), (1, 4)]),
    ([(6, 5), (6, 1), (6, 0)], [(0, 1, 2), (1, 2, 3), (2, 0, 7)], []),
    ([(6, 5), (6, 1), (6, 0)], [(0, 1, 2), (1, 2, 3), (2, 0, 8)], []),
    ([(6, 5), (6, 1), (6, 0)], [(0, 1, 2), (2, 1, 3), (2, 0, 1)], [(2, 5)]),
    ([(2, 1), (6, 2), (12, 3)], [(1, 2, 1), (2, 0, 4)], [(1, 4)]),
    ([(4, 1), (2, 0), (4, 1)], [(0, 1, 1), (1, 2, 0)], []),
    ([(4, 1), (2, 0), (4, 1)], [], [(1, 1), (0, 3)]),
)


def small_plans():
    """The named plans, and many that are drawn."""
    chosen = random.Random(23)
    return list(NAMED) + [plans_by_hand.random_plan(chosen) for _ in range(700)]


SMALL = [(arguments, plans_by_hand.timetables(*arguments)) for arguments in small_plans()]
POSSIBLE = [(arguments, found) for arguments, found in SMALL if found]
IMPOSSIBLE = [arguments for arguments, found in SMALL if not found]


class SmallPlans(unittest.TestCase):
    def test_there_are_enough_of_all_kinds(self):
        ways = [arguments for arguments in IMPOSSIBLE if type(Plan(*arguments).conflict()) is tuple]
        self.assertGreater(len(POSSIBLE), 300)
        self.assertGreater(len(IMPOSSIBLE) - len(ways), 50)
        self.assertGreater(len(ways), 20)

    def test_is_timetable(self):
        for (lines, wishes, fixed), found in SMALL:
            plan = Plan(lines, wishes, fixed)
            for departures in itertools.product(*[range(every) for every, _ in lines]):
                self.assertIs(plan.is_timetable(list(departures)), list(departures) in found)
            for departures in found:
                self.assertIs(plan.is_timetable(thing=departures), True)
                for i, (every, _) in enumerate(lines):
                    for at in (departures[i] - every, departures[i] + every):
                        self.assertIs(plan.is_timetable(departures[:i] + [at] + departures[i + 1:]), False)

    def test_count(self):
        for arguments, found in SMALL:
            self.assertEqual(Plan(*arguments).count(), len(found))
            if found:
                self.assertEqual(plans_by_hand.count_by_components(*arguments), len(found))

    def test_nth_and_number_of(self):
        for arguments, found in POSSIBLE:
            plan = Plan(*arguments)
            for number, departures in enumerate(found):
                self.assertEqual(plan.nth(number), departures)
                self.assertEqual(plan.number_of(departures), number)
            self.assertEqual(plan.nth(number=len(found) - 1), found[-1])
            self.assertEqual(plan.number_of(thing=found[-1]), len(found) - 1)

    def test_numbers_out_of_range(self):
        for arguments, found in POSSIBLE:
            plan = Plan(*arguments)
            for number in (-1, len(found), -len(found), 10 ** 60, -10 ** 60):
                self.assertIs(raised(lambda: plan.nth(number)), InvalidNumber)

    def test_number_of_what_is_no_timetable(self):
        for (lines, wishes, fixed), found in SMALL:
            plan = Plan(lines, wishes, fixed)
            for departures in itertools.islice(itertools.product(*[range(-1, every) for every, _ in lines]), 60):
                if list(departures) not in found:
                    self.assertIs(raised(lambda: plan.number_of(list(departures))), InvalidWishes)

    def test_departure_of(self):
        for (lines, wishes, fixed), found in POSSIBLE:
            plan = Plan(lines, wishes, fixed)
            for i, (every, _) in enumerate(lines):
                value, modulus = plan.departure_of(i)
                self.assertIs(type(plan.departure_of(i)), tuple)
                self.assertTrue(0 <= value < modulus)
                self.assertEqual(every % modulus, 0)
                self.assertEqual({departures[i] for departures in found}, set(range(value, every, modulus)))
                self.assertEqual(plan.departure_of(i=i), (value, modulus))

    def test_between(self):
        for (lines, wishes, fixed), found in POSSIBLE:
            plan = Plan(lines, wishes, fixed)
            for i, j in itertools.product(range(len(lines)), repeat=2):
                least = plans_by_hand.lesser(lines, i, j)
                value, modulus = plan.between(i, j)
                self.assertIs(type(plan.between(i, j)), tuple)
                self.assertTrue(0 <= value < modulus)
                self.assertEqual(least % modulus, 0)
                taken = {(departures[j] - departures[i]) % least for departures in found}
                self.assertEqual(taken, set(range(value, least, modulus)))
                self.assertEqual(plan.between(j=j, i=i), (value, modulus))
            for i, (every, _) in enumerate(lines):
                self.assertEqual(plan.between(i, i), (0, every))

    def test_no_conflict_where_there_is_a_timetable(self):
        for arguments, _ in POSSIBLE:
            self.assertIs(Plan(*arguments).conflict(), None)

    def test_conflict_is_a_certificate(self):
        for arguments in IMPOSSIBLE:
            plan = Plan(*arguments)
            certificate = plan.conflict()
            self.assertTrue(plans_by_hand.is_certificate(*arguments, certificate), arguments)
            self.assertIs(plan.shows_conflict(certificate), True)
            self.assertIs(plan.shows_conflict(thing=certificate), True)

    def test_not_possible(self):
        for arguments in IMPOSSIBLE:
            plan, last = Plan(*arguments), len(arguments[0]) - 1
            for wrong in (lambda: plan.nth(0), lambda: plan.nth(-1), lambda: plan.nth(10 ** 60),
                          lambda: plan.departure_of(0), lambda: plan.departure_of(last),
                          lambda: plan.between(0, 0), lambda: plan.between(last, 0)):
                with self.assertRaises(NotPossible) as caught:
                    wrong()
                self.assertIs(type(caught.exception), NotPossible)
                self.assertTrue(plans_by_hand.is_certificate(*arguments, caught.exception.ring))
                self.assertIs(plan.shows_conflict(caught.exception.ring), True)
                self.assertEqual(caught.exception.ring, plan.conflict())

    def test_indices(self):
        for arguments, _ in SMALL[:120]:
            plan, many = Plan(*arguments), len(arguments[0])
            for index in (-1, many, -many, 40, 10 ** 60, -10 ** 60):
                for wrong in (lambda: plan.departure_of(index), lambda: plan.between(index, 0),
                              lambda: plan.between(0, index), lambda: plan.between(index, index)):
                    self.assertIs(raised(wrong), InvalidIndex)


class Certificates(unittest.TestCase):
    def test_shows_conflict_for_all_short_ways(self):
        for arguments, _ in SMALL[:150]:
            lines, wishes, fixed = arguments
            plan, departures = Plan(*arguments), dict(fixed)
            steps = list(itertools.product(range(len(wishes)), (True, False)))
            for many in (1, 2, 3):
                for way in itertools.islice(itertools.product(steps, repeat=many), 300):
                    ring = plans_by_hand.is_wrong_ring(lines, wishes, list(way))
                    self.assertIs(plan.shows_conflict(list(way)), ring)
                    for i, j in itertools.product(list(departures) + [len(lines) - 1], repeat=2):
                        wrong = plans_by_hand.is_wrong_way(lines, wishes, fixed, i, j, list(way))
                        self.assertIs(plan.shows_conflict((i, j, list(way))), wrong)

    def test_a_ring_gone_twice(self):
        plan = Plan([(6, 5)], [(0, 0, 2)], [])
        for many in range(1, 14):
            self.assertIs(plan.shows_conflict([(0, True)] * many), many % 6 != 0)
            self.assertIs(plan.shows_conflict([(0, False)] * many), many % 6 != 0)
            self.assertIs(plan.shows_conflict([(0, True)] * many + [(0, False)] * many), False)
        self.assertIs(plan.shows_conflict([(0, True)] * 499), True)

    def test_the_least_headway_on_the_ring_counts(self):
        lines = [(12, 0), (12, 0), (4, 0), (12, 0)]
        wishes = [(0, 1, 4), (1, 0, 4), (1, 2, 1), (2, 1, 3), (0, 3, 1)]
        plan = Plan(lines, wishes, [])
        self.assertIs(plan.shows_conflict([(0, True), (1, True)]), True)
        self.assertIs(plan.shows_conflict([(0, True), (2, True), (3, True), (1, True)]), False)
        self.assertIs(plan.shows_conflict([(0, True), (1, True), (4, True), (4, False)]), True)
        self.assertEqual(plan.count(), 0)

    def test_a_way_from_a_fixed_line_to_itself(self):
        plan = Plan([(6, 0), (6, 0)], [(0, 1, 2), (1, 0, 3)], [(0, 4)])
        way = [(0, True), (1, True)]
        self.assertIs(plan.shows_conflict(way), True)
        self.assertIs(plan.shows_conflict((0, 0, way)), True)
        self.assertIs(plan.shows_conflict((1, 1, way[::-1])), False)
        self.assertIs(plan.shows_conflict((0, 1, way[:1])), False)

    def test_fixed_lines_that_contradict_each_other(self):
        lines, wishes = [(6, 5), (6, 1), (2, 0)], [(0, 2, 1), (2, 1, 1)]
        plan = Plan(lines, wishes, [(0, 0), (1, 4)])
        self.assertIs(plan.shows_conflict((0, 1, [(0, True), (1, True)])), True)
        self.assertIs(plan.shows_conflict((1, 0, [(1, False), (0, False)])), True)
        self.assertIs(plan.shows_conflict((1, 0, [(0, True), (1, True)])), False)
        self.assertIs(plan.shows_conflict([(0, True), (1, True)]), False)
        self.assertIs(Plan(lines, wishes, [(0, 0), (1, 3)]).conflict(), None)


class GreatPlans(unittest.TestCase):
    def great_plans(self):
        for everies in plans_by_hand.great_headways():
            for fixings in (0, 3, 40):
                yield plans_by_hand.great_plan(everies, fixings)

    def test_timetables_and_numbers(self):
        for arguments, aim in self.great_plans():
            plan = Plan(*arguments)
            many = plan.count()
            self.assertIs(plan.conflict(), None)
            self.assertEqual(many, plans_by_hand.count_by_components(*arguments))
            self.assertEqual(plan.nth(plan.number_of(aim)), aim)
            numbers = sorted({0, many // 7, many // 2, many - 1})
            tables = [plan.nth(number) for number in numbers]
            self.assertEqual(tables, sorted(tables))
            for number, departures in zip(numbers, tables):
                self.assertTrue(all(plans_by_hand.holds(arguments[0], wish, departures) for wish in arguments[1]))
                self.assertIs(plan.is_timetable(departures), True)
                self.assertEqual(plan.number_of(departures), number)
            for number in (-1, many, many + 10 ** 60):
                self.assertIs(raised(lambda: plan.nth(number)), InvalidNumber)

    def test_departures_and_differences(self):
        for arguments, _ in self.great_plans():
            lines, plan = arguments[0], Plan(*arguments)
            many = plan.count()
            tables = [plan.nth(many * part // 11) for part in range(11)]
            for i in range(0, 40, 7):
                value, modulus = plan.departure_of(i)
                self.assertEqual(modulus, self.modulus_by_hand(*arguments, i))
                self.assertEqual({departures[i] % modulus for departures in tables}, {value})
                for j in range(40):
                    value, modulus = plan.between(i, j)
                    self.assertEqual(plans_by_hand.lesser(lines, i, j) % modulus, 0)
                    self.assertEqual({(departures[j] - departures[i]) % modulus for departures in tables}, {value})

    def modulus_by_hand(self, lines, wishes, fixed, i):
        """The greatest headway up to that of a line with which it is tied to a fixed one."""
        found = 1
        for modulus in sorted({every for every, _ in lines if every <= lines[i][0]}):
            label = plans_by_hand.labels(lines, wishes, modulus)
            if label[i] in {label[k] for k, _ in fixed if k in label}:
                found = modulus
        return found

    def test_conflicts(self):
        rings = ways = 0
        for (lines, wishes, fixed), _ in self.great_plans():
            for k, (i, j, walk) in list(enumerate(wishes))[::9]:
                arguments = (lines, wishes[:k] + [(i, j, walk + 1)] + wishes[k + 1:], fixed)
                plan = Plan(*arguments)
                certificate = plan.conflict()
                if certificate is None:
                    continue
                rings, ways = rings + (type(certificate) is list), ways + (type(certificate) is tuple)
                self.assertTrue(plans_by_hand.is_certificate(*arguments, certificate))
                self.assertIs(plan.shows_conflict(certificate), True)
                self.assertEqual(plan.count(), 0)
                self.assertIs(raised(lambda: plan.nth(0)), NotPossible)
                self.assertIs(raised(lambda: plan.between(3, 39)), NotPossible)
        self.assertTrue(rings > 20 and ways > 0, (rings, ways))

    def test_a_long_ring(self):
        lines = [(7 * 10 ** 49, k) for k in range(40)]
        wishes = [(k, (k + 1) % 40, 5) for k in range(40)]
        rest = sum(k + 5 for k in range(40)) % (7 * 10 ** 49)
        self.assertTrue(plans_by_hand.is_certificate(lines, wishes, [], Plan(lines, wishes, []).conflict()))
        wishes[-1] = (39, 0, 5 + 7 * 10 ** 49 - rest)
        self.assertEqual(Plan(lines, wishes, []).count(), 7 * 10 ** 49)
        self.assertEqual(Plan(lines, wishes, [(20, 11)]).count(), 1)
        way = Plan(lines, wishes[:-1], [(0, 0), (39, 0)]).conflict()
        self.assertTrue(plans_by_hand.is_certificate(lines, wishes, [(0, 0), (39, 0)], way))
        self.assertEqual(len(way[2]), 39)


if __name__ == "__main__":
    unittest.main()
