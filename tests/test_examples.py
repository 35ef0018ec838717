"""The examples of the interface."""

import unittest

from onefriend.circles import Circle
from onefriend.errors import BadLine, BadNet, BadNumber, NotOne
from onefriend.families import board, couples, groups, squares
from onefriend.girths import allowed_friends, is_sparse, is_star, shows_sparse, sparse_net
from onefriend.nets import common, counts, friends, rest
from onefriend.nettexts import read_net, write_net
from onefriend.samenumbers import common_number, same_degree, sizes
from onefriend.toldnets import may_be_told, rest_told, shares, told
from onefriend.windmills import (
    blades, count_windmills, hubs, is_one_friend, shows_windmill, windmill,
)

MILL = (5, ((0, 1), (0, 2), (0, 3), (0, 4), (1, 2), (3, 4)))
RING = (5, ((0, 1), (0, 4), (1, 2), (2, 3), (3, 4)))


class ExamplesTest(unittest.TestCase):
    def test_nets(self):
        found = [friends(MILL, 1), common(MILL, 1, 3), counts(MILL), rest((3, ((0, 1),)))]
        self.assertEqual(found, [(0, 2), (0,), ((1,), (1,)), (3, ((0, 2), (1, 2)))])

    def test_nets_error(self):
        with self.assertRaises(BadNet) as caught:
            friends((2, ((1, 0),)), 0)
        self.assertEqual(vars(caught.exception), {"part": "pairs"})

    def test_windmills(self):
        found = [is_one_friend(MILL), hubs(MILL), blades(MILL), count_windmills(7), windmill(6),
                 shows_windmill(9, windmill(9))]
        self.assertEqual(found, [True, (0,), ((1, 2), (3, 4)), 105, None, True])

    def test_windmills_error(self):
        with self.assertRaises(NotOne):
            blades((2, ((0, 1),)))

    def test_samenumbers(self):
        found = [common_number(board(4)), same_degree(board(4)), sizes(2), sizes(4),
                 common_number((3, ((0, 1),)))]
        self.assertEqual(found, [2, 6, ((4, 3), (16, 6)), ((6, 5), (15, 8), (96, 20)), 0])

    def test_girths(self):
        found = [is_sparse(RING), is_star(RING), shows_sparse(2, RING), is_star((3, ((0, 1), (0, 2)))),
                 allowed_friends(), sparse_net(4), sparse_net(7)[0]]
        self.assertEqual(found, [True, False, True, True, (2, 3, 7, 57), None, 50])

    def test_toldnets(self):
        found = [told(RING), shares(10, 3, 0, 1), rest_told(10, 3, 0, 1), may_be_told(17, 4, 0, 1),
                 told((3, ()))]
        self.assertEqual(found, [(5, 2, 0, 1), (5, 4), (10, 6, 3, 4), False, None])

    def test_toldnets_error(self):
        with self.assertRaises(BadNumber):
            shares(10, 9, 0, 1)

    def test_families(self):
        found = [groups(2, 2), squares(5), board(2), couples(4)[0]]
        self.assertEqual(found, [(4, ((0, 2), (0, 3), (1, 2), (1, 3))), RING,
                                 (4, ((0, 1), (0, 2), (1, 3), (2, 3))), 6])

    def test_families_error(self):
        with self.assertRaises(BadNumber):
            squares(7)

    def test_circles(self):
        circle = Circle(3)
        found = [circle.turn_over(1, 0), circle.turn_over(1, 2), circle.turn_over(2, 0),
                 circle.is_one_friend(), circle.counts(), circle.undo(), circle.net, circle.told()]
        self.assertEqual(found, [None, None, None, True, ((1,), ()), None, (3, ((0, 1), (1, 2))), None])

    def test_circles_error(self):
        with self.assertRaises(BadNumber):
            Circle(61)

    def test_nettexts(self):
        found = [write_net((4, ((0, 1), (0, 3), (1, 2)))), read_net("halls 3\n0 with 2")]
        self.assertEqual(found, ["halls 4\n0 with 1 3\n1 with 2", (3, ((0, 2),))])

    def test_nettexts_error(self):
        with self.assertRaises(BadLine) as caught:
            read_net("halls 3\n0 with 2 1")
        self.assertEqual(vars(caught.exception), {"line": 2, "word": 4})


if __name__ == "__main__":
    unittest.main()
