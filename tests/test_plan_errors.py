"""Point 11: what makes no plan, what is no timetable and no certificate, and what stays as it was."""

import unittest

import by_hand
from by_hand import raised
from onwardlines.errors import InvalidFixed, InvalidNumber, InvalidWishes
from onwardlines.lines import Line, Stop, Walk
from onwardlines.plans import Plan
from onwardlines.routes import Route

LINES = [(6, 5), (12, 1), (2, 0)]
WISHES = [(0, 1, 2), (1, 2, 3)]
FIXED = [(0, 3)]
WRONG_LINES = ([], (), None, ((6, 5),), LINES + [(24, 1)] * 38, [[6, 5]], [(6,)], [(6, 5, 1)], [()], [6, 5],
               [(6, 5), None], [(True, 5)], [(6, True)], [(6, False)], [("6", 5)], [(6, None)], [(0, 5)], [(-6, 5)],
               [(6, -1)], [(6, 5), (4, 1)], [(2, 1), (3, 1), (6, 1)], [(6, 5), [12, 1]], {"6": 5}, "65",
               [Line(6, 5, 3)], [(Line(6, 5, 3), 5)], [((6, 5),)], [(10 ** 49, 1), (10 ** 49 - 1, 1)],
               [(1, 1)] * 41, [(6, 5)] * 100, [(6, [5])], [(6, (5,))], [((6,), 5)])
WRONG_WISHES = ((), None, ((0, 1, 2),), [[0, 1, 2]], [(0, 1)], [(0, 1, 2, 3)], [()], [0, 1, 2], [(0, 1, 2), None],
                [(True, 1, 2)], [(0, True, 2)], [(0, False, 2)], [(0, 1, True)], [(0, 1, False)], [("0", 1, 2)],
                [(0, 1, None)], [(-1, 1, 2)], [(0, -1, 2)], [(3, 1, 2)], [(0, 3, 2)], [(0, 1, -1)],
                [(0, 10 ** 60, 2)], [(-10 ** 60, 0, 2)], [(0, 1, -10 ** 60)], [(0, 1, 2), [1, 2, 3]],
                [(0, 1, 2)] * 81, [(0, 1, 2)] * 200, {"0": 1}, "012", [(0, (1,), 2)], [(0, 1, [2])], [([0], 1, 2)])
WRONG_FIXED = ((), None, ((0, 3),), [[0, 3]], [(0,)], [(0, 3, 1)], [()], [0, 3], [(0, 3), None], [(True, 3)],
               [(False, 3)], [(0, True)], [(0, False)], [("0", 3)], [(0, "3")], [(0, None)], [(-1, 3)], [(3, 0)],
               [(0, 6)], [(0, -1)], [(2, 2)], [(1, 12)], [(0, 10 ** 60)], [(10 ** 60, 0)], [(0, 3), (0, 3)],
               [(0, 3), (1, 4), (0, 2)], [(0, 3), [1, 4]], {"0": 3}, "03", [([0], 3)], [(0, [3])], [((0,), 3)])


class Making(unittest.TestCase):
    def test_valid_plans(self):
        for lines, wishes, fixed in ((LINES, WISHES, FIXED), ([(1, 0)], [], []), ([(1, 0)], [(0, 0, 0)], [(0, 0)]),
                                     ([(24, 7)] * 40, [(39, 0, 5)] * 80, [(k, 3) for k in range(40)]),
                                     (LINES, [(2, 2, 0)] * 80, [(2, 1), (1, 11), (0, 5)]),
                                     ([(10 ** 60, 10 ** 60)], [(0, 0, 10 ** 60)], [(0, 10 ** 60 - 1)]),
                                     ([(10 ** 70, 10 ** 71)], [(0, 0, 10 ** 72)], [(0, 10 ** 70 - 1)])):
            self.assertIs(type(Plan(lines, wishes, fixed)), Plan)
            self.assertIs(type(Plan(fixed=fixed, wishes=wishes, lines=lines)), Plan)

    def test_one_and_forty_lines(self):
        for many in (1, 2, 39, 40):
            self.assertEqual(Plan([(3, 1)] * many, [], []).nth(0), [0] * many)
            self.assertEqual(Plan([(3, 1)] * many, [], []).count(), 3 ** many)
        for many in (0, 41, 80):
            self.assertIs(raised(lambda: Plan([(3, 1)] * many, [], [])), InvalidWishes)

    def test_eighty_wishes(self):
        for many in (0, 1, 79, 80):
            self.assertEqual(Plan([(3, 1)], [(0, 0, 2)] * many, []).count(), 3)
        for many in (81, 82, 160):
            self.assertIs(raised(lambda: Plan([(3, 1)], [(0, 0, 2)] * many, [])), InvalidWishes)

    def test_wrong_lines(self):
        for odd in list(WRONG_LINES) + by_hand.any_objects():
            with self.subTest(odd=odd):
                self.assertIs(raised(lambda: Plan(odd, [], [])), InvalidWishes)
        for odd in by_hand.any_objects():
            with self.subTest(odd=odd):
                self.assertIs(raised(lambda: Plan([odd], [], [])), InvalidWishes)
                self.assertIs(raised(lambda: Plan([(6, 5), odd], [], [])), InvalidWishes)

    def test_wrong_wishes(self):
        for odd in list(WRONG_WISHES) + [odd for odd in by_hand.any_objects() if odd != []]:
            with self.subTest(odd=odd):
                self.assertIs(raised(lambda: Plan(LINES, odd, [])), InvalidWishes)
        for odd in by_hand.any_objects():
            with self.subTest(odd=odd):
                self.assertIs(raised(lambda: Plan(LINES, [odd], [])), InvalidWishes)
                self.assertIs(raised(lambda: Plan(LINES, WISHES + [odd], [])), InvalidWishes)

    def test_wrong_fixed_departures(self):
        for odd in list(WRONG_FIXED) + [odd for odd in by_hand.any_objects() if odd != []]:
            with self.subTest(odd=odd):
                self.assertIs(raised(lambda: Plan(LINES, WISHES, odd)), InvalidFixed)
        for odd in by_hand.any_objects():
            with self.subTest(odd=odd):
                self.assertIs(raised(lambda: Plan(LINES, WISHES, [odd])), InvalidFixed)
                self.assertIs(raised(lambda: Plan(LINES, WISHES, FIXED + [odd])), InvalidFixed)

    def test_the_first_wrong_argument_decides(self):
        for lines in WRONG_LINES:
            self.assertIs(raised(lambda: Plan(lines, WRONG_WISHES[0], WRONG_FIXED[0])), InvalidWishes)
        for wishes in WRONG_WISHES:
            for fixed in WRONG_FIXED:
                self.assertIs(raised(lambda: Plan(LINES, wishes, fixed)), InvalidWishes)
                self.assertIs(raised(lambda: Plan(LINES[:0], wishes, fixed)), InvalidWishes)
        for fixed in WRONG_FIXED:
            self.assertIs(raised(lambda: Plan(None, [], fixed)), InvalidWishes)
            self.assertIs(raised(lambda: Plan(LINES, [(0, 1, 0), (1, 0, 0)], fixed)), InvalidFixed)

    def test_compared_by_identity(self):
        one, other = Plan(LINES, WISHES, FIXED), Plan(LINES, WISHES, FIXED)
        self.assertIs(one == other, False)
        self.assertIs(one != other, True)
        self.assertIs(one == one, True)
        self.assertEqual(len({one: 1, other: 2}), 2)

    def test_where_the_methods_stand(self):
        self.assertEqual(Plan.__module__, "onwardlines.plans")
        for name in ("is_timetable", "conflict", "shows_conflict", "count", "nth", "number_of", "departure_of",
                     "between"):
            self.assertIn(name, vars(Plan))


class AnyObject(unittest.TestCase):
    def test_what_is_no_timetable(self):
        plan = Plan(LINES, WISHES, [])
        right = plan.nth(0)
        self.assertIs(plan.is_timetable(right), True)
        odd_ones = [tuple(right), [right], (right,), [[at] for at in right], right[:-1], right + [0], right + right,
                    [None] + right[1:], right[:-1] + ["0"], [float(at) for at in right], {"a": right}, None, str(right),
                    [Walk(1)] * 3, [Route(Walk(1))] * 3, right[:1] + [right[1:]], [], [at + 12 for at in right]]
        for odd in odd_ones + by_hand.any_objects():
            with self.subTest(odd=odd):
                self.assertIs(plan.is_timetable(odd), False)
                self.assertIs(raised(lambda: plan.number_of(odd)), InvalidWishes)

    def test_booleans_are_no_departures(self):
        plan = Plan([(2, 0), (2, 0)], [], [])
        self.assertEqual([plan.number_of(table) for table in ([0, 0], [0, 1], [1, 0], [1, 1])], [0, 1, 2, 3])
        for odd in ([False, 0], [0, True], [True, True], [False, False], [True, 1]):
            self.assertIs(plan.is_timetable(odd), False)
            self.assertIs(raised(lambda: plan.number_of(odd)), InvalidWishes)
        one = Plan([(1, 0)], [], [])
        self.assertIs(one.is_timetable([False]), False)
        self.assertIs(one.is_timetable([0]), True)
        for odd in by_hand.any_objects():
            self.assertIs(one.is_timetable([odd]), type(odd) is int and odd == 0)

    def test_what_is_no_ring(self):
        plan = Plan([(6, 5), (6, 1)], [(0, 1, 2), (1, 0, 1), (1, 1, 0)], [])
        ring = [(0, True), (1, True)]
        self.assertIs(plan.shows_conflict(ring), True)
        odd_ones = [tuple(ring), [list(step) for step in ring], [], [()], [(0,)], [(0, True, 1)], [ring], (ring,),
                    [(0, 1), (1, 1)], [(0, True), (1, 1)], [(2, 1)], [(2, 0)], [(False, True), (True, True)],
                    [(0, True), (True, True)], [(0, True), (3, True)], [(-3, True), (-2, True)], [(0, "True")],
                    [(0, None), (1, None)], [("0", True)], [(10 ** 60, True)], [(0, True), (2, True)], [(0, True)],
                    [(0, True), (1, False)], [(1, True), (1, True)], [(0, True), [1, True]], [(0, True), 1],
                    [(0, True), None], {"a": ring}, "ring", [Walk(1)], [(Walk(1), True)], [((0,), True)],
                    [([0], True)], [(0, [True])], [(0, True), (0, False)], (0, 0, ring), (0, 1, ring[:1])]
        for odd in odd_ones + by_hand.any_objects():
            with self.subTest(odd=odd):
                self.assertIs(plan.shows_conflict(odd), False)
        self.assertIs(plan.shows_conflict([(2, True)]), True)

    def test_what_is_no_way_between_fixed_lines(self):
        plan = Plan([(6, 5), (6, 1), (6, 0)], [(0, 1, 2), (1, 2, 1)], [(0, 1), (1, 3)])
        way = [(0, True)]
        self.assertIs(plan.shows_conflict((0, 1, way)), True)
        self.assertIs(plan.shows_conflict((1, 0, [(0, False)])), True)
        odd_ones = [[0, 1, way], (0, 1), (0, 1, way, 0), (0, 1, tuple(way)), (0, 1, []), (0, 1, None), (0, 1, 0),
                    (0, 1, [[0, True]]), (0, 1, [(0, 1)]), (0, 1, [(False, True)]), (False, 1, way), (0, True, way),
                    (False, True, way), ("0", 1, way), (None, 1, way), ([0], 1, way), ((0,), 1, way), (0, [1], way),
                    (0, {"a": 1}, way), (Walk(1), 1, way), (0, Route(Walk(1)), way), (1, 0, way), (0, 0, way),
                    (0, 2, [(0, True), (1, True)]), (2, 1, [(1, False)]), (2, 2, [(1, False), (1, True)]),
                    (-3, 1, way), (0, -2, way), (3, 1, way), (0, 10 ** 60, way), (0, 1, [(0, True), (0, True)]),
                    (0, 1, [(2, True)]), (0, 1, [(0, True), (1, True)]), (0, 1, [(1, True)]), (), (way,), (0, way, 1)]
        for odd in odd_ones + by_hand.any_objects():
            with self.subTest(odd=odd):
                self.assertIs(plan.shows_conflict(odd), False)

    def test_without_wishes(self):
        plan = Plan([(6, 5)], [], [(0, 2)])
        for odd in ([], [(0, True)], (0, 0, []), (0, 0, [(0, True)])):
            self.assertIs(plan.shows_conflict(odd), False)


class StaysAsItWas(unittest.TestCase):
    def answers(self, plan, timetable, ring):
        return [plan.count(), plan.conflict(), plan.is_timetable(timetable), plan.shows_conflict(ring),
                raised(lambda: plan.nth(-1)), raised(lambda: plan.number_of(timetable)),
                raised(lambda: plan.departure_of(0)), raised(lambda: plan.between(0, 1))]

    def test_changed_arguments_change_nothing(self):
        for walk in (2, 3):
            lines, wishes, fixed = [(6, 5), (6, 1), (2, 0)], [(0, 1, 2), (1, 0, walk), (1, 2, 4)], [(0, 3)]
            plan, fresh = Plan(lines, wishes, fixed), Plan(list(lines), list(wishes), list(fixed))
            lines.append((4, 1))
            lines[0] = (2, 0)
            wishes.clear()
            fixed[0] = (1, 0)
            timetable, ring = [3, 4, 1], [(0, True), (1, True)]
            self.assertEqual(self.answers(plan, timetable, ring), self.answers(fresh, timetable, ring))

    def test_changed_results_change_nothing(self):
        plan = Plan([(6, 5), (6, 1)], [(0, 1, 2)], [])
        plan.nth(3).clear()
        self.assertEqual(plan.nth(3), [3, 4])
        self.assertIsNot(plan.nth(3), plan.nth(3))
        ring = Plan([(6, 5), (6, 1)], [(0, 1, 2), (1, 0, 3)], [])
        ring.conflict().clear()
        self.assertIs(ring.shows_conflict(ring.conflict()), True)
        self.assertIsNot(ring.conflict(), ring.conflict())
        way = Plan([(6, 5), (6, 1)], [(0, 1, 2)], [(0, 3), (1, 3)])
        way.conflict()[2].clear()
        self.assertIs(way.shows_conflict(way.conflict()), True)
        self.assertIsNot(way.conflict()[2], way.conflict()[2])
        with self.assertRaises(ValueError) as caught:
            way.nth(0)
        caught.exception.ring[2].append((0, False))
        self.assertIs(way.shows_conflict(way.conflict()), True)
        self.assertEqual(type(way.conflict()), tuple)

    def test_arguments_are_not_modified(self):
        lines, wishes, fixed = list(LINES), list(WISHES), list(FIXED)
        timetable, ring, way = [3, 4, 0], [(0, True), (1, True)], (0, 0, [(0, True)])
        plan = Plan(lines, wishes, fixed)
        plan.is_timetable(timetable), plan.shows_conflict(ring), plan.shows_conflict(way)
        raised(lambda: plan.number_of(timetable))
        self.assertEqual((lines, wishes, fixed), (LINES, WISHES, FIXED))
        self.assertEqual((timetable, ring, way), ([3, 4, 0], [(0, True), (1, True)], (0, 0, [(0, True)])))
        odd = [[6, 5], [3, [Walk(4)], {"a": [1]}], Stop(6, 1)]
        for wrong in (lambda: Plan(odd, [], []), lambda: Plan(LINES, odd, []), lambda: Plan(LINES, [], odd)):
            self.assertTrue(issubclass(raised(wrong), ValueError))
        self.assertEqual(odd, [[6, 5], [3, [Walk(4)], {"a": [1]}], Stop(6, 1)])

    def test_equal_calls_and_errors(self):
        for wishes in ([(0, 1, 2), (1, 2, 3)], [(0, 1, 2), (1, 0, 3)]):
            plan = Plan(LINES, wishes, FIXED)
            first = self.answers(plan, [3, 4, 0], [(0, True), (1, True)])
            for wrong in (lambda: plan.nth(-1), lambda: plan.nth(10 ** 60), lambda: plan.departure_of(3),
                          lambda: plan.between(0, -1), lambda: plan.number_of(None)):
                self.assertIsNot(raised(wrong), None)
            self.assertEqual(self.answers(plan, [3, 4, 0], [(0, True), (1, True)]), first)
            self.assertEqual(self.answers(Plan(LINES, wishes, FIXED), [3, 4, 0], [(0, True), (1, True)]), first)

    def test_nth_with_what_is_no_integer(self):
        plan = Plan(LINES, WISHES, [])
        for odd in (True, False, None, "0", [0], (0,)):
            self.assertIs(raised(lambda: plan.nth(odd)), InvalidNumber)


if __name__ == "__main__":
    unittest.main()
