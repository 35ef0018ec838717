"""Point 1: arguments stay as they are, equal ones have equal answers, and the interface."""

import copy
import inspect
import unittest

from onefriend import families, girths, nets, samenumbers, windmills
from onefriend.errors import BadNet, BadNumber, FriendError
from tests.samples import MILL, NO_INTEGERS, NO_NETS, RING

INTERFACE = {
    nets: {
        "is_net": ["value"], "friends": ["net", "hall"], "common": ["net", "one", "other"],
        "counts": ["net"], "rest": ["net"],
    },
    windmills: {
        "is_one_friend": ["net"], "windmill": ["halls"], "shows_windmill": ["halls", "value"],
        "hubs": ["net"], "blades": ["net"], "count_windmills": ["halls"],
    },
    samenumbers: {"common_number": ["net"], "same_degree": ["net"], "sizes": ["many"]},
    girths: {
        "is_sparse": ["net"], "is_star": ["net"], "allowed_friends": [], "sparse_net": ["friends"],
        "shows_sparse": ["friends", "value"],
    },
    families: {
        "board": ["side"], "couples": ["many"], "squares": ["prime"], "groups": ["parts", "size"],
    },
}


def functions():
    return [getattr(module, name) for module in INTERFACE for name in INTERFACE[module]]


def outcome(function, values):
    """The answer, or the kind and the fields of the error."""
    try:
        return function(*values)
    except FriendError as error:
        return type(error), vars(error)


class InterfaceTest(unittest.TestCase):
    def test_names_files_and_arguments(self):
        for module, names in INTERFACE.items():
            for name, arguments in names.items():
                with self.subTest(name):
                    function = getattr(module, name)
                    self.assertEqual(function.__module__, module.__name__)
                    self.assertEqual(list(inspect.signature(function).parameters), arguments)

    def test_arguments_by_keyword(self):
        self.assertEqual(nets.common(other=3, one=1, net=MILL), (0,))
        self.assertIs(windmills.shows_windmill(value=None, halls=2), True)
        self.assertIs(girths.shows_sparse(value=None, friends=4), True)
        self.assertEqual(families.groups(size=3, parts=2)[1][0], (0, 3))


class ArgumentsTest(unittest.TestCase):
    def values(self):
        lists = [[5, list(MILL[1])], [3, [[0, 1], [0, 2]]], (3, [[1, 0], (0, 2)]), {0: [1], 1: [0]}]
        return [MILL, RING, 5, 6] + lists + list(NO_INTEGERS) + [value for value, part in NO_NETS]

    def test_arguments_are_not_modified(self):
        for function in functions():
            for value in self.values():
                many = len(inspect.signature(function).parameters)
                for values in ((value,) * many, (value, [1, [2]], {1: [2]})[:many],
                               (MILL, value, value)[:many], (5, value, value)[:many],
                               (2, value, value)[:many]):
                    before = copy.deepcopy(values)
                    outcome(function, values)
                    self.assertEqual(values, before)

    def test_equal_arguments_have_equal_answers(self):
        for function in functions():
            for value in self.values():
                many = len(inspect.signature(function).parameters)
                values = (value, 1, 3)[:many]
                self.assertEqual(outcome(function, values), outcome(function, copy.deepcopy(values)))

    def test_any_value_has_an_answer_or_an_error_of_the_package(self):
        for function in functions():
            for value in self.values():
                many = len(inspect.signature(function).parameters)
                outcome(function, (value,) * many)

    def test_very_deep_and_very_long_values(self):
        deep = ()
        for _ in range(100000):
            deep = (deep,)
        for value in (deep, (3, deep), (3, (deep,)), (deep, deep), (3, ((0, deep),)), 10 ** 5000):
            for function in functions():
                many = len(inspect.signature(function).parameters)
                outcome(function, (value,) * many)
                outcome(function, (MILL, value, value)[:many])
                outcome(function, (5, value, value)[:many])
                outcome(function, (2, value, value)[:many])

    def test_the_leftmost_wrong_argument(self):
        for arguments in (((2, [(0, 1)]), True), ((2, ((0, 1),) * 2), 2)):
            with self.assertRaises(BadNet) as caught:
                nets.friends(*arguments)
            self.assertEqual(caught.exception.part, "pairs")
        with self.assertRaises(BadNet) as caught:
            nets.common((61, ((1, 0),)), None, "0")
        self.assertEqual(caught.exception.part, "halls")
        for arguments in ((None, 0), (0, None), (0, 0), (True, 2), ("2", 2), (61, -1)):
            with self.assertRaises(BadNumber):
                families.groups(*arguments)
        for arguments in ((None, (2, ((1, 0),))), (101, [1]), (True, None), ("2", RING)):
            with self.assertRaises(BadNumber):
                girths.shows_sparse(*arguments)


if __name__ == "__main__":
    unittest.main()
