"""Point 13: nets, with marks and twins."""

import itertools
import random
import unittest

import nets_by_hand
from by_hand import raised
from nets_by_hand import ReplayedNet, everything, lists
from onwardlines.errors import InvalidIndex, InvalidWishes, NothingToUndo, NotPossible
from onwardlines.net import Net
from onwardlines.plans import Plan

LINES = [(60, 20), (30, 10), (30, 5), (1, 0)]
WISHES = [(0, 1, 4), (1, 2, 1), (2, 2, 25), (3, 0, 7)]


def made(lines=(), wishes=(), fixed=()):
    """A net with all of these, in this order."""
    net = Net()
    for row in lines:
        net.add(*row)
    for row in wishes:
        net.wish(*row)
    for row in fixed:
        net.fix(*row)
    return net


def full():
    return made(LINES, WISHES, [(2, 0), (0, 25)])


class Adding(unittest.TestCase):
    def test_an_empty_net(self):
        self.assertEqual(lists(Net()), ([], [], [], 0))

    def test_lists_in_the_order_of_the_calls(self):
        net = Net()
        self.assertEqual([net.add(60, 20), net.add(30, 10)], [0, 1])
        self.assertIs(net.fix(1, 29), None)
        self.assertIs(net.wish(1, 0, 3), None)
        self.assertEqual(net.add(120, 0), 2)
        self.assertIs(net.wish(0, 1, 4), None)
        self.assertIs(net.wish(0, 1, 4), None)
        self.assertIs(net.fix(0, 0), None)
        self.assertEqual(lists(net), ([(60, 20), (30, 10), (120, 0)], [(1, 0, 3), (0, 1, 4), (0, 1, 4)],
                                      [(1, 29), (0, 0)], 8))
        self.assertTrue(all(type(row) is tuple for row in net.lines() + net.wishes() + net.fixed()))

    def test_by_name(self):
        net = Net()
        net.add(ride=20, every=60)
        net.add(every=30, ride=10)
        net.wish(walk=4, j=1, i=0)
        net.wish(i=1, walk=5, j=0)
        net.fix(at=7, i=1)
        net.mark()
        net.drop(index=0)
        net.undo_to(index=0)
        self.assertEqual(lists(net), ([(60, 20), (30, 10)], [(0, 1, 4), (1, 0, 5)], [(1, 7)], 5))

    def test_the_lists_are_new_ones(self):
        net = full()
        first = everything(net)
        for taken in (net.lines(), net.wishes(), net.fixed()):
            taken[0] = None
            taken.append((1, 1, 1))
        self.assertEqual(everything(net), first)
        for taken in (net.lines, net.wishes, net.fixed):
            self.assertIs(type(taken()), list)
            self.assertIsNot(taken(), taken())
        empty = Net()
        self.assertEqual(len({id(each) for each in [empty.lines(), empty.wishes(), empty.fixed()]}), 3)

    def test_great_numbers(self):
        net = made([(10 ** 59, 10 ** 60 - 1), (10 ** 60 * 7, 10 ** 70)], [(0, 1, 10 ** 60 - 1), (1, 1, 10 ** 80)],
                   [(0, 10 ** 59 - 1)])
        self.assertEqual(net.lines(), [(10 ** 59, 10 ** 60 - 1), (7 * 10 ** 60, 10 ** 70)])
        self.assertEqual(net.wishes()[1], (1, 1, 10 ** 80))
        self.assertEqual(net.fixed(), [(0, 10 ** 59 - 1)])

    def test_compared_by_identity(self):
        one, other = full(), full()
        self.assertIs(one == other, False)
        self.assertIs(one != other, True)
        self.assertIs(one == one, True)
        self.assertIs(one == one.twin(), False)
        self.assertEqual(len({one: 1, other: 2, Net(): 3, Net(): 4}), 4)


class Dropping(unittest.TestCase):
    def test_later_wishes_move_up(self):
        for index in range(4):
            net = full()
            self.assertIs(net.drop(index), None)
            self.assertEqual(lists(net), (LINES, WISHES[:index] + WISHES[index + 1:], [(2, 0), (0, 25)], 11))

    def test_undone_it_stands_at_its_place_again(self):
        for first, second in itertools.product(range(4), range(3)):
            net = full()
            net.drop(first)
            net.drop(second)
            net.undo()
            self.assertEqual(net.wishes(), WISHES[:first] + WISHES[first + 1:])
            net.undo()
            self.assertEqual(lists(net), lists(full()))

    def test_of_equal_wishes_the_one_with_the_number(self):
        net = made([(6, 5)], [(0, 0, 1), (0, 0, 2), (0, 0, 1)])
        net.drop(2)
        self.assertEqual(net.wishes(), [(0, 0, 1), (0, 0, 2)])
        net.undo()
        net.drop(0)
        self.assertEqual(net.wishes(), [(0, 0, 2), (0, 0, 1)])

    def test_all_of_them(self):
        net = full()
        for _ in WISHES:
            net.drop(0)
        self.assertEqual(lists(net), (LINES, [], [(2, 0), (0, 25)], 14))
        self.assertIs(raised(lambda: net.drop(0)), InvalidIndex)


class Undoing(unittest.TestCase):
    def test_back_to_the_beginning_and_once_more(self):
        net, told = Net(), []
        for name, *given in (("add", 6, 5), ("fix", 0, 3), ("add", 2, 1), ("wish", 1, 0, 2), ("wish", 0, 0, 1),
                             ("drop", 0), ("fix", 1, 1), ("drop", 0)):
            told.append(lists(net))
            getattr(net, name)(*given)
        self.assertEqual(lists(net), ([(6, 5), (2, 1)], [], [(0, 3), (1, 1)], 8))
        for before in told[::-1]:
            self.assertIs(net.undo(), None)
            self.assertEqual(lists(net), before)
        for _ in range(3):
            self.assertIs(raised(net.undo), NothingToUndo)
            self.assertEqual(lists(net), ([], [], [], 0))
        self.assertEqual(net.add(7, 1), 0)

    def test_what_was_undone_may_be_done_again(self):
        net = made([(6, 5), (2, 0)], [], [(0, 3)])
        net.undo()
        net.fix(0, 4)
        self.assertEqual(net.fixed(), [(0, 4)])
        net.undo()
        net.undo()
        self.assertEqual(net.add(18, 7), 1)
        self.assertEqual(net.lines(), [(6, 5), (18, 7)])

    def test_marks_are_no_calls_to_undo(self):
        net = made([(6, 5)])
        net.mark()
        net.mark()
        self.assertEqual(len(net), 1)
        net.undo()
        self.assertEqual(len(net), 0)
        self.assertIs(raised(net.undo), NothingToUndo)


class Marks(unittest.TestCase):
    def test_numbers(self):
        net = Net()
        self.assertEqual([net.mark(), net.mark()], [0, 1])
        net.add(6, 5)
        self.assertEqual([net.mark(), net.mark()], [2, 3])

    def test_undo_to_keeps_its_mark_and_removes_later_ones(self):
        net = made([(6, 5)])
        net.mark()
        net.wish(0, 0, 1)
        net.mark()
        net.wish(0, 0, 2)
        net.mark()
        net.fix(0, 2)
        self.assertIs(net.undo_to(1), None)
        self.assertEqual(lists(net), ([(6, 5)], [(0, 0, 1)], [], 2))
        self.assertIs(raised(lambda: net.undo_to(2)), InvalidIndex)
        net.undo_to(1)
        net.wish(0, 0, 3)
        net.undo_to(1)
        self.assertEqual(net.wishes(), [(0, 0, 1)])
        self.assertEqual(net.mark(), 2)
        net.undo_to(0)
        self.assertEqual(lists(net), ([(6, 5)], [], [], 1))
        self.assertEqual(net.mark(), 1)

    def test_several_marks_at_the_same_place(self):
        net = made([(6, 5)])
        for _ in range(4):
            net.mark()
        net.undo_to(3)
        self.assertEqual(net.twin().mark(), 4)
        net.undo_to(1)
        self.assertEqual(lists(net), ([(6, 5)], [], [], 1))
        self.assertIs(raised(lambda: net.undo_to(2)), InvalidIndex)
        self.assertEqual(net.mark(), 2)

    def test_undo_removes_the_marks_behind_the_undone_call(self):
        net = Net()
        net.mark()
        net.add(6, 5)
        net.mark()
        net.wish(0, 0, 1)
        net.mark()
        net.mark()
        net.undo()
        self.assertEqual(net.twin().mark(), 2)
        self.assertIs(raised(lambda: net.undo_to(2)), InvalidIndex)
        # The mark just ahead of the undone call stays.
        net.undo_to(1)
        self.assertEqual(net.lines(), [(6, 5)])
        net.undo()
        self.assertEqual(net.mark(), 1)
        net.undo_to(0)
        self.assertEqual(net.mark(), 1)

    def test_a_mark_at_the_beginning(self):
        net = Net()
        self.assertEqual(net.mark(), 0)
        for row in LINES:
            net.add(*row)
        net.undo_to(0)
        self.assertEqual(lists(net), ([], [], [], 0))
        self.assertIs(raised(net.undo), NothingToUndo)
        net.undo_to(0)
        self.assertEqual(net.mark(), 1)

    def test_without_marks(self):
        for net in (Net(), full()):
            for index in (0, -1, 1, 10 ** 60, -10 ** 60):
                self.assertIs(raised(lambda: net.undo_to(index)), InvalidIndex)


class Twins(unittest.TestCase):
    def test_they_go_on_apart(self):
        net = made([(6, 5), (2, 1)], [(0, 1, 3)])
        net.mark()
        net.fix(0, 3)
        other = net.twin()
        self.assertIs(type(other), Net)
        self.assertEqual(everything(other), everything(net))
        first = everything(net)
        other.add(12, 0)
        other.drop(0)
        other.mark()
        other.fix(1, 1)
        self.assertEqual(everything(net), first)
        told = everything(other)
        net.undo()
        net.undo()
        net.wish(1, 1, 9)
        self.assertEqual(net.mark(), 0)
        self.assertEqual(everything(other), told)
        other.undo_to(0)
        self.assertEqual(lists(other), ([(6, 5), (2, 1)], [(0, 1, 3)], [], 3))
        self.assertEqual(lists(net), ([(6, 5), (2, 1)], [(1, 1, 9)], [], 3))

    def test_calls_to_undo_of_their_own(self):
        net = full()
        other = net.twin()
        while len(other):
            other.undo()
        self.assertIs(raised(other.undo), NothingToUndo)
        self.assertEqual(lists(net), lists(full()))
        self.assertEqual(len(net.twin()), 10)
        third = net.twin().twin()
        while len(net):
            net.undo()
        self.assertEqual(lists(third), lists(full()))

    def test_marks_of_their_own(self):
        net = made([(6, 5)])
        net.mark()
        other = net.twin()
        self.assertEqual([other.mark(), other.mark(), net.mark()], [1, 2, 1])
        net.undo()
        self.assertEqual([net.mark(), other.mark()], [0, 3])

    def test_of_an_empty_net(self):
        net = Net()
        other = net.twin()
        other.add(6, 5)
        self.assertEqual((len(net), len(other)), (0, 1))


class Plans(unittest.TestCase):
    def test_like_the_plan_of_the_lists(self):
        net = full()
        self.assertIs(type(net.plan()), Plan)
        self.assertIsNot(net.plan(), net.plan())
        for fixed, many in (([(2, 0), (0, 25)], 1), ([(2, 0)], 2), ([], 60)):
            plan, expected = net.plan(), Plan(LINES, WISHES, fixed)
            self.assertEqual((plan.count(), expected.count()), (many, many))
            for number in range(many):
                self.assertEqual(plan.nth(number), expected.nth(number))
            net.undo()

    def test_without_timetables(self):
        net = made(LINES[:2], [(0, 1, 4), (1, 0, 4)])
        plan = net.plan()
        self.assertEqual(plan.count(), 0)
        self.assertIs(raised(lambda: plan.nth(0)), NotPossible)
        self.assertIs(plan.shows_conflict([(0, True), (1, True)]), True)
        net.drop(1)
        self.assertEqual(net.plan().count(), 60)
        fixed = made([(6, 0), (6, 0)], [(0, 1, 2)], [(0, 0), (1, 1)]).plan()
        self.assertEqual((fixed.count(), fixed.conflict()), (0, (0, 1, [(0, True)])))

    def test_without_lines(self):
        net = Net()
        self.assertIs(raised(net.plan), InvalidWishes)
        net.add(6, 5)
        self.assertEqual(net.plan().count(), 6)
        net.undo()
        self.assertIs(raised(net.plan), InvalidWishes)

    def test_a_plan_stays_when_its_net_goes_on(self):
        net = made([(6, 5), (2, 1)], [(0, 1, 3)], [(0, 4)])
        plan = net.plan()
        self.assertEqual((plan.count(), plan.nth(0)), (1, [4, 0]))
        net.add(12, 1)
        net.fix(1, 1)
        self.assertEqual(net.plan().count(), 0)
        net.undo()
        net.drop(0)
        self.assertEqual(net.plan().count(), 24)
        net.undo_to(net.mark())
        while len(net):
            net.undo()
        self.assertEqual((plan.count(), plan.nth(0)), (1, [4, 0]))
        self.assertIs(plan.is_timetable([4, 0]), True)


class DrawnCalls(unittest.TestCase):
    def test_against_all_calls_replayed(self):
        errors = 0
        for seed in range(60):
            chosen = random.Random(seed)
            chain = chosen.choice(nets_by_hand.CHAINS)
            pairs = [(Net(), ReplayedNet())]
            for _ in range(70):
                net, replayed = chosen.choice(pairs)
                name, given = nets_by_hand.drawn_call(chosen, replayed, chain)
                expected = replayed.error(name, given)
                if expected is not None:
                    errors += 1
                    self.assertIs(raised(lambda: getattr(net, name)(*given)), expected, (name, given))
                else:
                    self.assertEqual(getattr(net, name)(*given), replayed.call(name, given))
                for one, other in pairs:
                    self.assertEqual(lists(one), (*other.content(), len(other.calls)))
                if chosen.random() < 0.1:
                    pairs.append((net.twin(), replayed.twin()))
            for net, replayed in pairs:
                self.assertEqual(net.twin().mark(), len(replayed.marks))
        self.assertGreater(errors, 500)

    def test_equal_calls(self):
        def told(seed):
            chosen, net, replayed = random.Random(seed), Net(), ReplayedNet()
            for _ in range(60):
                name, given = nets_by_hand.drawn_call(chosen, replayed, (1, 2, 4, 8))
                if replayed.error(name, given) is None:
                    replayed.call(name, given)
                    getattr(net, name)(*given)
            return everything(net)
        for seed in range(20):
            self.assertEqual(told(seed), told(seed))


if __name__ == "__main__":
    unittest.main()
