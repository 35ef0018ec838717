"""Point 1: arguments stay as they are, equal ones have equal answers, and the interface."""

import copy
import inspect
import unittest

from onefriend import families, girths, nets, nettexts, samenumbers, toldnets, windmills
from onefriend.circles import Circle
from onefriend.errors import BadHall, BadNet, BadNumber, BadPair, FriendError, NotOne
from tests.samples import MILL, NO_INTEGERS, NO_NETS, PATH, RING

FOUR = ["halls", "friends", "joined", "apart"]
INTERFACE = {
    nets: {
        "is_net": ["value"], "friends": ["net", "hall"], "common": ["net", "one", "other"],
        "counts": ["net"], "rest": ["net"],
    },
    windmills: {
        "is_one_friend": ["net"], "windmill": ["halls"], "shows_windmill": ["halls", "value"],
        "hubs": ["net"], "blades": ["net"], "count_windmills": ["halls"],
    },
    samenumbers: {"common_number": ["net"], "same_degree": ["net"], "sizes": ["many"]},
    girths: {
        "is_sparse": ["net"], "is_star": ["net"], "allowed_friends": [], "sparse_net": ["friends"],
        "shows_sparse": ["friends", "value"],
    },
    toldnets: {"told": ["net"], "shares": FOUR, "may_be_told": FOUR, "rest_told": FOUR},
    families: {
        "board": ["side"], "couples": ["many"], "squares": ["prime"], "groups": ["parts", "size"],
    },
    nettexts: {"write_net": ["net"], "read_net": ["text"]},
}
METHODS = {
    "turn_over": ["self", "one", "other"], "undo": ["self"], "is_one_friend": ["self"],
    "counts": ["self"], "told": ["self"],
}


def functions():
    return [getattr(module, name) for module in INTERFACE for name in INTERFACE[module]]


def calls(value):
    """Each function, with arguments among which the value stands at each place, and at all."""
    for function in functions():
        many = len(inspect.signature(function).parameters)
        for values in ((value,) * 4, (value, 1, 3, 0), (value, [1, [2]], {1: [2]}, [[]]),
                       (MILL, value, value, value), (MILL, 1, value, 0), (5, value, value, value),
                       (2, value, value, value), (10, 3, value, value), (10, 3, 0, value)):
            yield function, values[:many]


def circle_calls(value):
    """What is asked of circles, with the value at each place."""
    yield Circle, (value,)
    for values in ((value, value), (value, 0), (0, value), (value, [1, [2]]), ({1: [2]}, value)):
        yield Circle(5).turn_over, values


def outcome(function, values):
    """The answer, or the kind and the fields of the error."""
    try:
        return function(*values)
    except FriendError as error:
        return type(error), vars(error)


class InterfaceTest(unittest.TestCase):
    def test_the_circle(self):
        self.assertEqual(Circle.__module__, "onefriend.circles")
        self.assertEqual(list(inspect.signature(Circle).parameters), ["halls"])
        for name, arguments in METHODS.items():
            with self.subTest(name):
                self.assertEqual(list(inspect.signature(vars(Circle)[name]).parameters), arguments)
        for name in ("net", "done"):
            with self.subTest(name):
                self.assertIsInstance(vars(Circle)[name], property)

    def test_names_files_and_arguments(self):
        for module, names in INTERFACE.items():
            for name, arguments in names.items():
                with self.subTest(name):
                    function = getattr(module, name)
                    self.assertEqual(function.__module__, module.__name__)
                    self.assertEqual(list(inspect.signature(function).parameters), arguments)

    def test_arguments_by_keyword(self):
        self.assertEqual(nets.common(other=3, one=1, net=MILL), (0,))
        self.assertIs(windmills.shows_windmill(value=None, halls=2), True)
        self.assertIs(girths.shows_sparse(value=None, friends=4), True)
        self.assertEqual(families.groups(size=3, parts=2)[1][0], (0, 3))
        for function in (toldnets.shares, toldnets.may_be_told, toldnets.rest_told):
            found = function(apart=1, joined=0, friends=3, halls=10)
            self.assertEqual(found, function(10, 3, 0, 1))
        self.assertEqual(nettexts.read_net(text=nettexts.write_net(net=MILL)), MILL)
        circle = Circle(halls=3)
        circle.turn_over(other=0, one=2)
        self.assertEqual(circle.net, (3, ((0, 2),)))


class ArgumentsTest(unittest.TestCase):
    def values(self):
        lists = [[5, list(MILL[1])], [3, [[0, 1], [0, 2]]], (3, [[1, 0], (0, 2)]), {0: [1], 1: [0]}]
        texts = ["halls 3\n0 with 2", "halls 3\n0 with 2 1", "\n"]
        return ([MILL, RING, 5, 6] + lists + texts + list(NO_INTEGERS)
                + [value for value, part in NO_NETS])

    def test_arguments_are_not_modified(self):
        for value in self.values():
            for function, values in list(calls(value)) + list(circle_calls(value)):
                before = copy.deepcopy(values)
                outcome(function, values)
                self.assertEqual(values, before)

    def test_equal_arguments_have_equal_answers(self):
        for value in self.values():
            for function, values in calls(value):
                self.assertEqual(outcome(function, values), outcome(function, copy.deepcopy(values)))

    def test_any_value_has_an_answer_or_an_error_of_the_package(self):
        for value in self.values():
            for function, values in list(calls(value)) + list(circle_calls(value)):
                outcome(function, values)

    def test_very_deep_and_very_long_values(self):
        deep = ()
        for _ in range(100000):
            deep = (deep,)
        for value in (deep, (3, deep), (3, (deep,)), (deep, deep), (3, ((0, deep),)), 10 ** 5000,
                      "halls " + "9" * 10000, "x" * 100000, "halls 3 " * 10000, "\n" * 100000):
            for function, values in list(calls(value)) + list(circle_calls(value)):
                outcome(function, values)


class LeftmostTest(unittest.TestCase):
    """Each function of several arguments, with errors of more than one of them."""

    def assert_error(self, kind, fields, function, *arguments):
        with self.assertRaises(FriendError) as caught:
            function(*arguments)
        self.assertEqual((type(caught.exception), vars(caught.exception)), (kind, fields))

    def test_friends_and_common(self):
        for net, part in NO_NETS:
            for wrong in (-1, 60, None, True, "0", [0]):
                self.assert_error(BadNet, {"part": part}, nets.friends, net, wrong)
                self.assert_error(BadNet, {"part": part}, nets.common, net, wrong, 0)
                self.assert_error(BadNet, {"part": part}, nets.common, net, 0, wrong)
                self.assert_error(BadNet, {"part": part}, nets.common, net, wrong, wrong)
        for wrong in (5, -1, None, True, "0", [0]):
            self.assert_error(BadHall, {}, nets.friends, MILL, wrong)
            self.assert_error(BadHall, {}, nets.common, MILL, wrong, {})
            self.assert_error(BadHall, {}, nets.common, MILL, 0, wrong)

    def test_the_first_part_of_a_net(self):
        for net, part in (((61, None), "halls"), ([61, None], "whole"), ((61, None, 0), "whole"),
                          ((3, None), "pairs")):
            self.assert_error(BadNet, {"part": part}, nets.friends, net, -1)
            self.assert_error(BadNet, {"part": part}, windmills.blades, net)
            self.assert_error(BadNet, {"part": part}, toldnets.told, net)
            self.assert_error(BadNet, {"part": part}, nettexts.write_net, net)

    def test_not_one_comes_behind(self):
        self.assert_error(BadNet, {"part": "pairs"}, windmills.blades, (4, PATH[1][::-1]))
        self.assert_error(NotOne, {}, windmills.blades, PATH)

    def test_shows_windmill_and_shows_sparse(self):
        for number in NO_INTEGERS + (-1, 101, 10 ** 5000):
            for value in (None, RING, MILL, 0, "", [1], (2, ((1, 0),)), (61, None)):
                self.assert_error(BadNumber, {}, windmills.shows_windmill, number, value)
                self.assert_error(BadNumber, {}, girths.shows_sparse, number, value)

    def test_groups(self):
        for parts, size in ((None, 0), (0, None), (0, 0), (True, 2), ("2", 2), (61, -1), (2, None),
                            (2, "2"), (30, [2])):
            self.assert_error(BadNumber, {}, families.groups, parts, size)

    def test_the_functions_of_four_numbers(self):
        for function in (toldnets.shares, toldnets.may_be_told, toldnets.rest_told):
            for four in ((None, None, None, None), ("a", [], {}, ()), (2, None, 0, 0), (10, None, "", -1),
                         (10, 3, [], None), (10, 3, 3, ()), (10, 3, 0, None), (True, True, False, True),
                         (10, True, 0, True), (10, 3, False, 1), (10, 3, 0, True), (None, 3, 0, 1)):
                self.assert_error(BadNumber, {}, function, *four)

    def test_turn_over(self):
        circle = Circle(5)
        for one, other in ((None, 5), (5, None), (5, 5), (-1, [0]), ("0", "1"), (True, True), ({}, 0)):
            self.assert_error(BadPair, {}, circle.turn_over, one, other)


if __name__ == "__main__":
    unittest.main()
