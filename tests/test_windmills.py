"""Point 3: nets in which any two unlike halls have just one friend in common."""

import unittest
from itertools import permutations
from math import factorial

from onefriend.errors import BadNet, BadNumber, NotOne
from onefriend.nets import is_net
from onefriend.windmills import (
    blades, count_windmills, hubs, is_one_friend, shows_windmill, windmill,
)
from tests.samples import (
    MILL, NO_INTEGERS, NO_NETS, PATH, RING, all_nets, all_renamed, friends_by_words, full_net,
    one_friend_by_words, renamed, star,
)

NO_NUMBERS = NO_INTEGERS + (0, -1, -3, 61, 62, 63, 10 ** 5000, -10 ** 5000)

# Nets in which some two unlike halls have another number of common friends than one.
NOT_ONE = (
    (2, ()), (2, ((0, 1),)), (3, ()), (3, ((0, 1),)), PATH, RING, full_net(4), full_net(60),
    star(3), star(5), (60, ()), (5, MILL[1][:-1]), (5, MILL[1][1:]), (6, MILL[1]),
    (5, MILL[1][:-2] + ((1, 3), (3, 4))), (5, MILL[1][:-1] + ((2, 3), (3, 4))),
    (7, ((0, 1), (0, 2), (1, 2), (3, 4), (3, 5), (4, 5))),
)


def mill_about(hub, halls):
    """The windmill about a hub whose other halls are paired in order."""
    others = [hall for hall in range(halls) if hall != hub]
    tips = list(zip(others[::2], others[1::2]))
    return (halls, tuple(sorted([tuple(sorted((hub, hall))) for hall in others] + tips)))


class IsOneFriendTest(unittest.TestCase):
    def test_every_net_of_up_to_five_halls(self):
        for halls in range(1, 6):
            for net in all_nets(halls):
                self.assertIs(is_one_friend(net), one_friend_by_words(net))

    def test_windmills_under_any_names(self):
        for net in all_renamed(MILL):
            self.assertIs(is_one_friend(net), True)
        for net in all_renamed(mill_about(0, 7)):
            self.assertIs(is_one_friend(net), True)
        for halls in range(1, 60, 2):
            for hub in {0, halls // 2, halls - 1}:
                self.assertIs(is_one_friend(mill_about(hub, halls)), True)

    def test_one_hall_and_two(self):
        self.assertIs(is_one_friend((1, ())), True)
        self.assertIs(is_one_friend((2, ())), False)
        self.assertIs(is_one_friend((2, ((0, 1),))), False)

    def test_other_nets(self):
        for net in NOT_ONE:
            self.assertIs(is_one_friend(net), False)

    def test_a_windmill_with_a_pair_less_or_more(self):
        halls, pairs = mill_about(3, 9)
        for pair in pairs:
            self.assertIs(is_one_friend((halls, tuple(p for p in pairs if p != pair))), False)
        for pair in full_net(9)[1]:
            if pair not in pairs:
                self.assertIs(is_one_friend((halls, tuple(sorted(pairs + (pair,))))), False)

    def test_values_that_are_no_nets(self):
        for value, part in NO_NETS:
            with self.assertRaises(BadNet) as caught:
                is_one_friend(value)
            self.assertEqual(caught.exception.part, part)


class WindmillTest(unittest.TestCase):
    def test_every_number(self):
        for halls in range(1, 61):
            net = windmill(halls)
            if halls % 2 == 0:
                self.assertIsNone(net)
                continue
            self.assertIs(is_net(net), True)
            self.assertEqual(net[0], halls)
            self.assertIs(one_friend_by_words(net), True)

    def test_the_least_ones(self):
        self.assertEqual(windmill(1), (1, ()))
        self.assertEqual(windmill(3), full_net(3))
        self.assertIn(windmill(5), all_renamed(MILL))

    def test_numbers_outside(self):
        for value in NO_NUMBERS:
            with self.assertRaises(BadNumber):
                windmill(value)


class ShowsWindmillTest(unittest.TestCase):
    def test_what_windmill_returns(self):
        for halls in range(1, 61):
            self.assertIs(shows_windmill(halls, windmill(halls)), True)

    def test_any_windmill(self):
        for net in all_renamed(MILL):
            self.assertIs(shows_windmill(5, net), True)
        for halls in range(1, 60, 2):
            self.assertIs(shows_windmill(halls, mill_about(halls - 1, halls)), True)

    def test_none_is_for_even_numbers_alone(self):
        for halls in range(1, 61):
            self.assertIs(shows_windmill(halls, None), halls % 2 == 0)

    def test_windmills_of_another_number(self):
        for halls in range(1, 61):
            for other in (1, 3, 5, 59):
                self.assertIs(shows_windmill(halls, windmill(other)), halls == other)

    def test_every_net_of_up_to_five_halls(self):
        for halls in range(1, 6):
            for net in all_nets(halls):
                self.assertIs(shows_windmill(halls, net), one_friend_by_words(net))

    def test_nets_that_are_none(self):
        for net in NOT_ONE:
            for halls in (1, 2, 3, 5, net[0], 60):
                self.assertIs(shows_windmill(halls, net), False)

    def test_any_other_value(self):
        lists = ([5, MILL[1]], (5, list(MILL[1])), (5, tuple(list(pair) for pair in MILL[1])))
        for value in NO_INTEGERS + lists + tuple(value for value, part in NO_NETS):
            if value is None:
                continue
            for halls in (1, 2, 3, 4, 5, 59, 60):
                self.assertIs(shows_windmill(halls, value), False)
        self.assertIs(shows_windmill(1, (True, ())), False)

    def test_numbers_outside(self):
        for halls in NO_NUMBERS:
            for value in (None, (1, ()), MILL, 5, [], (61, None)):
                with self.assertRaises(BadNumber):
                    shows_windmill(halls, value)


class HubsTest(unittest.TestCase):
    def test_ordinary_nets(self):
        self.assertEqual(hubs(MILL), (0,))
        self.assertEqual(hubs(mill_about(4, 9)), (4,))
        self.assertEqual(hubs(RING), ())
        self.assertEqual(hubs(PATH), ())
        self.assertEqual(hubs(star(60)), (0,))
        self.assertEqual(hubs((4, ((0, 1), (0, 3), (1, 2), (1, 3), (2, 3)))), (1, 3))

    def test_one_hall_and_two(self):
        self.assertEqual(hubs((1, ())), (0,))
        self.assertEqual(hubs((2, ())), ())
        self.assertEqual(hubs((2, ((0, 1),))), (0, 1))

    def test_full_nets(self):
        for halls in (1, 2, 3, 4, 60):
            self.assertEqual(hubs(full_net(halls)), tuple(range(halls)))

    def test_every_net_of_up_to_five_halls(self):
        for halls in range(1, 6):
            for net in all_nets(halls):
                rows = [friends_by_words(net, hall) for hall in range(halls)]
                found = tuple(hall for hall, row in enumerate(rows) if len(row) == halls - 1)
                self.assertEqual(hubs(net), found)

    def test_values_that_are_no_nets(self):
        for value, part in NO_NETS:
            with self.assertRaises(BadNet) as caught:
                hubs(value)
            self.assertEqual(caught.exception.part, part)


class BladesTest(unittest.TestCase):
    def test_ordinary_windmills(self):
        self.assertEqual(blades(MILL), ((1, 2), (3, 4)))
        self.assertEqual(blades(mill_about(3, 7)), ((0, 1), (2, 4), (5, 6)))
        self.assertEqual(blades(mill_about(6, 7)), ((0, 1), (2, 3), (4, 5)))
        self.assertEqual(blades(renamed(MILL, (2, 4, 0, 3, 1))), ((0, 4), (1, 3)))

    def test_one_hall_and_three(self):
        self.assertEqual(blades((1, ())), ())
        self.assertEqual(blades(full_net(3)), ((1, 2),))

    def test_windmills_under_any_names(self):
        for names in permutations(range(5)):
            net = renamed(MILL, names)
            found = tuple(pair for pair in net[1] if names[0] not in pair)
            self.assertEqual(blades(net), found)

    def test_every_number(self):
        for halls in range(5, 60, 2):
            for hub in (0, halls // 2, halls - 1):
                net = mill_about(hub, halls)
                self.assertEqual(blades(net), tuple(p for p in net[1] if hub not in p))

    def test_nets_that_are_none(self):
        for net in NOT_ONE:
            with self.assertRaises(NotOne):
                blades(net)

    def test_every_net_of_up_to_four_halls(self):
        for halls in range(1, 5):
            for net in all_nets(halls):
                if one_friend_by_words(net):
                    self.assertEqual(len(blades(net)), (halls - 1) // 2)
                    continue
                with self.assertRaises(NotOne):
                    blades(net)

    def test_bad_net_comes_before_not_one(self):
        for value, part in NO_NETS:
            with self.assertRaises(BadNet) as caught:
                blades(value)
            self.assertEqual(caught.exception.part, part)


class CountWindmillsTest(unittest.TestCase):
    def test_small_numbers_by_trying_all_nets(self):
        for halls in range(1, 6):
            found = sum(one_friend_by_words(net) for net in all_nets(halls))
            self.assertEqual(count_windmills(halls), found)

    def test_all_names_of_one_windmill(self):
        for halls in (1, 3, 5, 7):
            self.assertEqual(count_windmills(halls), len(all_renamed(mill_about(0, halls))))

    def test_told_numbers(self):
        self.assertEqual([count_windmills(halls) for halls in range(1, 12)],
                         [1, 0, 1, 0, 15, 0, 105, 0, 945, 0, 10395])

    def test_every_number(self):
        for halls in range(1, 61):
            half = (halls - 1) // 2
            pairings = factorial(halls - 1) // (2 ** half * factorial(half))
            found = 0 if halls % 2 == 0 else 1 if halls == 3 else halls * pairings
            self.assertEqual(count_windmills(halls), found)
            self.assertIs(type(count_windmills(halls)), int)

    def test_numbers_outside(self):
        for value in NO_NUMBERS:
            with self.assertRaises(BadNumber):
                count_windmills(value)


if __name__ == "__main__":
    unittest.main()
