"""Point 13: what a net refuses, and that it is then as before."""

import unittest

import by_hand
from by_hand import raised
from nets_by_hand import everything, lists
from onwardlines.errors import InvalidFixed, InvalidIndex, InvalidLine, InvalidWishes, NothingToUndo
from onwardlines.net import Net

FAR = (-1, -2, -3, -40, 40, 41, 10 ** 60 - 1, 1 - 10 ** 60)
NO_INTEGERS = by_hand.odd_objects() + [by_hand.Line(15, 3, 7), by_hand.Walk(5), by_hand.Stop(15, 3)]


def marked():
    """A net with all kinds of calls, marks, and a drop."""
    net = Net()
    net.add(12, 5)
    net.mark()
    net.add(6, 1)
    net.wish(0, 1, 2)
    net.fix(1, 3)
    net.mark()
    net.mark()
    net.wish(1, 0, 3)
    net.wish(1, 1, 4)
    net.drop(1)
    return net


class Refused(unittest.TestCase):
    def refuses(self, error, call, net=None):
        """Check that a call raises an error, and that the net is then as before."""
        net = marked() if net is None else net
        before = everything(net)
        self.assertIs(raised(lambda: call(net)), error)
        self.assertEqual(everything(net), before)

    def test_add_what_is_no_line(self):
        for odd in NO_INTEGERS:
            with self.subTest(odd=odd):
                self.refuses(InvalidLine, lambda net: net.add(odd, 5))
                self.refuses(InvalidLine, lambda net: net.add(6, odd))
                self.refuses(InvalidLine, lambda net: net.add(odd, odd))
                self.refuses(InvalidLine, lambda net: net.add(7, odd))
                self.refuses(InvalidLine, lambda net: net.add(odd, -1), Net())
        for every, ride in ((0, 5), (-1, 5), (-6, 5), (6, -1), (0, -1), (-10 ** 60, 5), (6, -10 ** 60)):
            self.refuses(InvalidLine, lambda net: net.add(every, ride))
            self.refuses(InvalidLine, lambda net: net.add(every, ride), Net())

    def test_add_a_headway_that_does_not_fit(self):
        # 4 fits the 12, and 18 the 6, but each only one of them.
        for every in (5, 7, 4, 8, 9, 18, 10 ** 59 + 1):
            self.refuses(InvalidWishes, lambda net: net.add(every, 5))
        for every in (1, 2, 3, 6, 12, 24, 12 * 10 ** 58):
            self.assertEqual(marked().add(every, 0), 2)
        net = Net()
        net.add(6, 0)
        self.assertEqual(net.add(18, 0), 1)
        self.refuses(InvalidWishes, lambda each: each.add(12, 0), net)

    def test_no_line_comes_first(self):
        self.refuses(InvalidLine, lambda net: net.add(7, -1))
        self.refuses(InvalidLine, lambda net: net.add(7, True))
        self.refuses(InvalidWishes, lambda net: net.add(7, 1))

    def test_forty_lines(self):
        net = Net()
        for number in range(40):
            self.assertEqual(net.add(6, number), number)
        self.refuses(InvalidWishes, lambda each: each.add(6, 5), net)
        self.refuses(InvalidWishes, lambda each: each.add(7, 5), net)
        self.refuses(InvalidLine, lambda each: each.add(6, None), net)
        self.refuses(InvalidLine, lambda each: each.add(0, 5), net)
        net.wish(39, 39, 0)
        self.refuses(InvalidIndex, lambda each: each.wish(39, 40, 0), net)
        net.fix(39, 5)
        self.assertEqual((len(net), net.plan().count()), (42, 0))
        for _ in range(3):
            net.undo()
        self.assertEqual(net.add(3, 5), 39)
        self.assertEqual(len(net.lines()), 40)

    def test_eighty_wishes(self):
        net = Net()
        net.add(6, 5)
        for number in range(80):
            self.assertIs(net.wish(0, 0, number), None)
        self.refuses(InvalidWishes, lambda each: each.wish(0, 0, 1), net)
        self.refuses(InvalidIndex, lambda each: each.wish(0, 1, 1), net)
        self.refuses(InvalidIndex, lambda each: each.drop(80), net)
        net.drop(30)
        net.wish(0, 0, 100)
        self.assertEqual(net.wishes()[-2:], [(0, 0, 79), (0, 0, 100)])
        self.refuses(InvalidWishes, lambda each: each.wish(0, 0, 1), net)
        net.undo()
        net.wish(0, 0, 200)
        self.assertEqual(len(net.wishes()), 80)
        net.drop(79)
        net.undo()
        self.refuses(InvalidWishes, lambda each: each.wish(0, 0, 1), net)
        self.assertEqual(len(net), 83)

    def test_wish_with_an_index_of_no_line(self):
        for index in (2,) + FAR:
            self.refuses(InvalidIndex, lambda net: net.wish(index, 0, 1))
            self.refuses(InvalidIndex, lambda net: net.wish(0, index, 1))
            self.refuses(InvalidIndex, lambda net: net.wish(index, 0, -1))
            self.refuses(InvalidIndex, lambda net: net.wish(0, index, -1))
            self.refuses(InvalidIndex, lambda net: net.wish(index, index, -10 ** 60))
        self.refuses(InvalidIndex, lambda net: net.wish(0, 0, 1), Net())

    def test_wish_with_a_negative_walk(self):
        for walk in (-1, -10 ** 60):
            self.refuses(InvalidWishes, lambda net: net.wish(0, 1, walk))
            self.refuses(InvalidWishes, lambda net: net.wish(1, 1, walk))

    def test_fix_with_an_index_of_no_line(self):
        for index in (2,) + FAR:
            for at in (0, -1, None, 10 ** 60, [0]):
                self.refuses(InvalidIndex, lambda net: net.fix(index, at))
        self.refuses(InvalidIndex, lambda net: net.fix(0, 0), Net())

    def test_fix_what_is_no_departure(self):
        for odd in NO_INTEGERS + [-1, 12, 13, -12, 10 ** 60, -10 ** 60]:
            with self.subTest(odd=odd):
                self.refuses(InvalidFixed, lambda net: net.fix(0, odd))
        net = Net()
        net.add(1, 0)
        for odd in (False, True, 1, -1):
            self.refuses(InvalidFixed, lambda each: each.fix(0, odd), net)
        net.fix(0, 0)
        self.assertEqual(net.fixed(), [(0, 0)])

    def test_fix_a_line_twice(self):
        for at in (3, 0, 5, 6, -1, None, True, [3]):
            self.refuses(InvalidFixed, lambda net: net.fix(1, at))
        net = marked()
        net.fix(0, 11)
        self.refuses(InvalidFixed, lambda each: each.fix(0, 11), net)
        net.undo()
        net.fix(0, 10)
        self.assertEqual(net.fixed(), [(1, 3), (0, 10)])

    def test_drop_what_is_no_wish(self):
        for index in (2, 3) + FAR:
            self.refuses(InvalidIndex, lambda net: net.drop(index))
        self.refuses(InvalidIndex, lambda net: net.drop(0), Net())

    def test_undo_to_what_is_no_mark(self):
        for index in (3, 4) + FAR:
            self.refuses(InvalidIndex, lambda net: net.undo_to(index))
        self.refuses(InvalidIndex, lambda net: net.undo_to(0), Net())

    def test_nothing_to_undo(self):
        net = Net()
        net.mark()
        self.refuses(NothingToUndo, lambda each: each.undo(), net)
        self.assertEqual(net.mark(), 1)

    def test_no_plan_without_lines(self):
        net = Net()
        net.mark()
        self.refuses(InvalidWishes, lambda each: each.plan(), net)

    def test_odd_objects_are_not_modified(self):
        odd = [3, [by_hand.Walk(4)], {"a": [1]}]
        for call in (lambda net: net.add(odd, 1), lambda net: net.add(6, odd), lambda net: net.fix(0, odd)):
            self.assertTrue(issubclass(raised(lambda: call(marked())), ValueError))
        self.assertEqual(odd, [3, [by_hand.Walk(4)], {"a": [1]}])

    def test_after_many_errors_it_goes_on(self):
        net = marked()
        for wrong in (lambda: net.add(7, 1), lambda: net.add(None, 1), lambda: net.wish(0, 5, 1),
                      lambda: net.wish(0, 1, -1), lambda: net.fix(1, 1), lambda: net.drop(2), lambda: net.undo_to(3)):
            self.assertIsNot(raised(wrong), None)
        net.undo()
        self.assertEqual(lists(net), ([(12, 5), (6, 1)], [(0, 1, 2), (1, 0, 3), (1, 1, 4)], [(1, 3)], 6))


if __name__ == "__main__":
    unittest.main()
