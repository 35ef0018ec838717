"""Point 9: circles, in which two halls at a time are joined or parted."""

import unittest
from itertools import combinations

from onefriend.circles import Circle
from onefriend.errors import BadNumber, BadPair, NoStep
from onefriend.families import board, groups, squares
from onefriend.nets import counts, is_net
from onefriend.toldnets import told
from onefriend.windmills import is_one_friend, windmill
from tests.samples import MILL, NO_INTEGERS, PATH, RING, all_nets, full_net, star

HUGE = (10 ** 5000, -10 ** 5000)


def circle_of(net):
    circle = Circle(net[0])
    for one, other in net[1]:
        circle.turn_over(one, other)
    return circle


def mixed_steps(halls, many):
    """So many steps over unlike halls, either way round, that come back to some pairs."""
    found = []
    for step in range(many):
        one, other = step * step % halls, (3 * step + 1) % halls
        if one != other:
            found.append((one, other))
    return found


def state(circle):
    return circle.net, circle.done


class CircleTest(unittest.TestCase):
    def assert_net(self, circle, net):
        self.assertEqual(circle.net, net)
        self.assertIs(is_net(circle.net), True)
        self.assertIs(circle.is_one_friend(), is_one_friend(net))
        self.assertEqual(circle.counts(), counts(net))
        self.assertEqual(circle.told(), told(net))

    def test_no_pairs_at_first(self):
        for halls in range(1, 61):
            circle = Circle(halls)
            self.assertEqual(circle.done, ())
            self.assert_net(circle, (halls, ()))

    def test_no_such_number(self):
        for halls in NO_INTEGERS + HUGE + (0, -1, -60, 61, 62, 1000):
            with self.assertRaises(BadNumber):
                Circle(halls)

    def test_one_hall(self):
        circle = Circle(1)
        self.assertIs(circle.is_one_friend(), True)
        self.assertEqual(circle.counts(), ((), ()))
        self.assertIsNone(circle.told())
        with self.assertRaises(BadPair):
            circle.turn_over(0, 0)
        with self.assertRaises(NoStep):
            circle.undo()
        self.assertEqual(state(circle), ((1, ()), ()))

    def test_methods_tell_nothing(self):
        circle = Circle(3)
        self.assertIsNone(circle.turn_over(0, 1))
        self.assertIsNone(circle.turn_over(1, 0))
        self.assertIsNone(circle.undo())

    def test_either_way_round(self):
        for one, other in ((0, 1), (1, 0), (0, 59), (59, 0), (59, 58), (30, 31)):
            circle = Circle(60)
            circle.turn_over(one, other)
            pair = (min(one, other), max(one, other))
            self.assertEqual(state(circle), ((60, (pair,)), (pair,)))

    def test_joined_halls_are_parted(self):
        for first, second in (((2, 4), (2, 4)), ((2, 4), (4, 2)), ((4, 2), (2, 4)), ((4, 2), (4, 2))):
            circle = Circle(5)
            circle.turn_over(*first)
            circle.turn_over(*second)
            self.assertEqual(state(circle), ((5, ()), ((2, 4), (2, 4))))
            circle.turn_over(*first)
            self.assertEqual(state(circle), ((5, ((2, 4),)), ((2, 4), (2, 4), (2, 4))))

    def test_pairs_ascend_in_whatever_order_they_come(self):
        circle = Circle(5)
        for one, other in ((4, 3), (0, 3), (2, 1), (4, 0), (1, 0), (0, 2)):
            circle.turn_over(one, other)
        self.assertEqual(circle.net, MILL)
        self.assertEqual(circle.done, ((3, 4), (0, 3), (1, 2), (0, 4), (0, 1), (0, 2)))

    def test_every_net_of_up_to_four_halls(self):
        for halls in range(1, 5):
            for net in all_nets(halls):
                circle = circle_of(net)
                self.assert_net(circle, net)
                self.assertEqual(circle.done, net[1])

    def test_answers_are_those_of_the_net(self):
        for net in (MILL, RING, PATH, star(60), full_net(20), windmill(59), board(7), squares(53),
                    groups(3, 20), (60, ())):
            self.assert_net(circle_of(net), net)

    def test_answers_follow_each_step(self):
        circle = Circle(9)
        joined = set()
        for one, other in mixed_steps(9, 60):
            circle.turn_over(one, other)
            joined ^= {(min(one, other), max(one, other))}
            self.assert_net(circle, (9, tuple(sorted(joined))))

    def test_a_windmill_comes_and_goes(self):
        circle = circle_of((5, MILL[1][:-1]))
        self.assertIs(circle.is_one_friend(), False)
        circle.turn_over(4, 3)
        self.assertIs(circle.is_one_friend(), True)
        self.assertEqual(circle.counts(), ((1,), (1,)))
        circle.turn_over(1, 3)
        self.assertIs(circle.is_one_friend(), False)
        circle.undo()
        self.assertIs(circle.is_one_friend(), True)

    def test_a_told_net_comes_and_goes(self):
        circle = circle_of(RING)
        self.assertEqual(circle.told(), (5, 2, 0, 1))
        circle.turn_over(0, 2)
        self.assertIsNone(circle.told())
        circle.turn_over(2, 0)
        self.assertEqual(circle.told(), (5, 2, 0, 1))

    def test_circles_do_not_share_anything(self):
        one, other = Circle(4), Circle(4)
        one.turn_over(0, 1)
        self.assertEqual(state(other), ((4, ()), ()))
        with self.assertRaises(NoStep):
            other.undo()

    def test_answers_that_were_given_stay(self):
        circle = Circle(4)
        circle.turn_over(0, 1)
        before = state(circle)
        circle.turn_over(2, 1)
        circle.undo()
        circle.undo()
        self.assertEqual(before, ((4, ((0, 1),)), ((0, 1),)))

    def test_the_properties_are_not_assigned(self):
        circle = Circle(4)
        for name in ("net", "done"):
            with self.assertRaises(AttributeError):
                setattr(circle, name, ())


class UndoTest(unittest.TestCase):
    def test_nothing_to_take_back(self):
        for halls in (1, 2, 60):
            circle = Circle(halls)
            for _ in range(2):
                with self.assertRaises(NoStep):
                    circle.undo()
                self.assertEqual(state(circle), ((halls, ()), ()))

    def test_nothing_more_to_take_back(self):
        circle = Circle(3)
        circle.turn_over(0, 1)
        circle.turn_over(0, 1)
        circle.undo()
        self.assertEqual(state(circle), ((3, ((0, 1),)), ((0, 1),)))
        circle.undo()
        self.assertEqual(state(circle), ((3, ()), ()))
        with self.assertRaises(NoStep):
            circle.undo()
        circle.turn_over(2, 1)
        self.assertEqual(state(circle), ((3, ((1, 2),)), ((1, 2),)))

    def test_a_parting_is_taken_back(self):
        circle = circle_of(RING)
        circle.turn_over(4, 0)
        self.assertNotIn((0, 4), circle.net[1])
        circle.undo()
        self.assertEqual(state(circle), (RING, RING[1]))

    def test_all_steps_back(self):
        for halls in (2, 5, 60):
            circle = Circle(halls)
            states = []
            for one, other in mixed_steps(halls, 200):
                states.append(state(circle))
                circle.turn_over(one, other)
            self.assertEqual(len(circle.done), len(states))
            for before in reversed(states):
                circle.undo()
                self.assertEqual(state(circle), before)
            with self.assertRaises(NoStep):
                circle.undo()

    def test_steps_forward_and_back(self):
        circle = Circle(5)
        circle.turn_over(3, 1)
        circle.turn_over(0, 4)
        circle.undo()
        circle.turn_over(2, 0)
        circle.turn_over(1, 3)
        self.assertEqual(state(circle), ((5, ((0, 2),)), ((1, 3), (0, 2), (1, 3))))
        circle.undo()
        circle.undo()
        self.assertEqual(state(circle), ((5, ((1, 3),)), ((1, 3),)))


class BadPairTest(unittest.TestCase):
    def assert_no_pair(self, circle, one, other):
        before = state(circle)
        with self.assertRaises(BadPair):
            circle.turn_over(one, other)
        self.assertEqual(state(circle), before)

    def test_a_hall_with_itself(self):
        for halls in (1, 2, 5, 60):
            circle = Circle(halls)
            for hall in range(halls):
                self.assert_no_pair(circle, hall, hall)

    def test_halls_outside(self):
        for halls in (1, 2, 5, 60):
            circle = circle_of(star(halls))
            for outside in (-1, -2, -halls, halls, halls + 1, 61, 1000) + HUGE:
                for inside in (0, halls - 1):
                    self.assert_no_pair(circle, outside, inside)
                    self.assert_no_pair(circle, inside, outside)
                self.assert_no_pair(circle, outside, outside)
                self.assert_no_pair(circle, outside, outside + 1)

    def test_no_integers(self):
        circle = circle_of(RING)
        for value in NO_INTEGERS + ((0, 1), [0, 1], "0", {0: 1}):
            for hall in range(5):
                self.assert_no_pair(circle, value, hall)
                self.assert_no_pair(circle, hall, value)
            for other in NO_INTEGERS + (-1, 5):
                self.assert_no_pair(circle, value, other)
                self.assert_no_pair(circle, other, value)

    def test_true_and_false_are_no_halls(self):
        circle = Circle(3)
        for one, other in ((True, 0), (0, True), (False, 1), (1, False), (True, False), (False, True),
                           (True, 2), (2, False)):
            self.assert_no_pair(circle, one, other)

    def test_all_pairs_of_small_numbers(self):
        for halls in range(1, 6):
            circle = Circle(halls)
            for one in range(-2, halls + 2):
                for other in range(-2, halls + 2):
                    if one != other and 0 <= min(one, other) and max(one, other) < halls:
                        circle.turn_over(one, other)
                        continue
                    self.assert_no_pair(circle, one, other)
            # Each two halls were turned over twice, once either way round.
            self.assertEqual(circle.net, (halls, ()))
            self.assertEqual(len(circle.done), halls * (halls - 1))
            self.assertEqual(set(circle.done), set(combinations(range(halls), 2)))

    def test_a_wrong_pair_is_no_step(self):
        circle = Circle(3)
        circle.turn_over(0, 1)
        self.assert_no_pair(circle, 1, 1)
        self.assert_no_pair(circle, 0, 3)
        circle.undo()
        self.assertEqual(state(circle), ((3, ()), ()))


if __name__ == "__main__":
    unittest.main()
