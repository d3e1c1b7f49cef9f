"""[3] and [5]: wrong arguments, unchanged arguments, new lists and arguments by name, for every function."""

import copy
import inspect
import itertools
import types
import unittest

from leadboard import errors, orders, walks
from tests.rankings import HUGE, O, R, S

NO_INTEGERS = [True, False, None, "3", "", "x", 3.0, 1.5, [3], [], (3,), (), {}, {3: 3}, b"3", object()]
ITEMS = [True, False, None, "1", 1.0, [1], (1,), {}]

WRONG = {
    "lead": [0, -1, -3, -HUGE] + NO_INTEGERS,
    "scores": [(4, 9, 8, 10), "4 9", None, {}, {0: 4}, True, False, 4, 1.5, [], [4] * 29, [4] * 400, [[4, 9, 8, 10]],
               object()] + [[4, 9, 8, item] for item in ITEMS] + [[item, 9, 8, 10] for item in ITEMS],
    "order": [(0, 1, 2, 3), "0123", None, {}, {0: 0, 1: 1, 2: 2, 3: 3}, True, False, 4, 1.5, [], [0], [0, 1, 2],
              [0, 1, 2, 3, 4], [0, 1, 2, 2], [0, 0, 1, 2], [0, 1, 2, 4], [1, 2, 3, 4], [-1, 0, 1, 2], [0, 1, 2, -1],
              [0, 1, 2, HUGE], [[0, 1, 2, 3]], [False, True, 2, 3], object()] + [[0, item, 2, 3] for item in ITEMS],
    "entry": [-1, -4, 4, 5, 28, HUGE, -HUGE] + NO_INTEGERS,
    "score": NO_INTEGERS,
    "walk": [(0, 1, 2), "012", None, {}, True, 3, [1], [0, 1, 2, 3], [0, 0], [-1], [3], [False], ["0"], [None], [[0]]],
}

ERRORS = {
    "lead": errors.InvalidLeadError,
    "scores": errors.InvalidScoresError,
    "order": errors.InvalidOrderError,
    "entry": errors.InvalidEntryError,
    "score": errors.InvalidNumberError,
    "walk": errors.InvalidWalkError,
}

RIGHT = {"lead": 3, "scores": R, "order": O, "entry": 1, "score": 7, "walk": [0, 1], "value": [0, 1]}

# A ranking of which nothing changes, so that an argument itself could be returned by mistake.
STILL = {"lead": 3, "scores": S, "order": O, "entry": 1, "score": 6, "walk": [], "value": []}

# A ranking of which no list is ascending.
MIXED = {"lead": 2, "scores": [6, 4, 10, 8], "order": [3, 2, 0, 1], "entry": 2, "score": 5, "walk": [0],
         "value": [3, 2, 0, 1]}

# A walk that goes upwards.
UPWARDS = {"lead": 2, "scores": S, "order": O, "entry": 0, "score": HUGE, "walk": [2, 0, 1], "value": [2, 0, 1]}

SOURCES = [RIGHT, STILL, MIXED, UPWARDS, dict(RIGHT, lead=99, walk=[])]

IN_ORDERS = {
    orders.is_scores: ("value",),
    orders.is_order: ("scores", "value"),
    orders.is_settled: ("lead", "scores", "order"),
    orders.wrong_places: ("lead", "scores", "order"),
    orders.settled_order: ("lead", "scores", "order"),
    orders.walk_orders: ("lead", "scores", "order"),
    orders.with_score: ("lead", "scores", "order", "entry", "score"),
    orders.with_entry: ("lead", "scores", "order", "score"),
    orders.without_entry: ("lead", "scores", "order", "entry"),
}

IN_WALKS = {
    walks.is_walk: ("lead", "scores", "order", "value"),
    walks.order_after: ("lead", "scores", "order", "walk"),
    walks.is_complete: ("lead", "scores", "order", "walk"),
    walks.count_exchanges: ("lead", "scores", "order"),
    walks.turned_pairs: ("lead", "scores", "order"),
}

FUNCTIONS = {**IN_ORDERS, **IN_WALKS}


def answer(function, *values, **named):
    """What a function returns, or the list of what it yields."""
    returned = function(*values, **named)
    return list(returned) if function is orders.walk_orders else returned


def given(names, source):
    return {name: copy.deepcopy(source[name]) for name in names}


def lists_in(value):
    """All lists within a value, itself included."""
    found = [value] if isinstance(value, list) else []
    if isinstance(value, (list, tuple)):
        for item in value:
            found = found + lists_in(item)
    return found


class Interface(unittest.TestCase):

    def test_names_and_parameters(self):
        for function, names in FUNCTIONS.items():
            self.assertIs(type(function), types.FunctionType)
            self.assertEqual(tuple(inspect.signature(function).parameters), names, function)

    def test_defined_where_they_are_listed(self):
        for module, functions in ((orders, IN_ORDERS), (walks, IN_WALKS)):
            for function in functions:
                self.assertEqual(function.__module__, module.__name__, function)

    def test_by_position_and_by_name(self):
        for function, names in FUNCTIONS.items():
            for source in SOURCES:
                by_position = answer(function, *given(names, source).values())
                by_name = answer(function, **given(names, source))
                backwards = answer(function, **given(reversed(names), source))
                self.assertEqual(by_position, by_name, function)
                self.assertEqual(by_position, backwards, function)


class WrongArguments(unittest.TestCase):

    def check(self, function, arguments, name):
        with self.assertRaises(errors.BoardError) as caught:
            answer(function, **arguments)
        self.assertIs(type(caught.exception), ERRORS[name], (function, arguments))
        with self.assertRaises(ERRORS[name]):
            answer(function, *arguments.values())

    def test_each_argument_wrong_by_itself(self):
        for function, names in FUNCTIONS.items():
            for name in names:
                for wrong in WRONG.get(name, []):
                    arguments = given(names, RIGHT)
                    arguments[name] = wrong
                    self.check(function, arguments, name)

    def test_the_first_wrong_parameter_decides(self):
        for function, names in FUNCTIONS.items():
            able = [name for name in names if name in WRONG]
            for many in range(2, len(able) + 1):
                for several in itertools.combinations(able, many):
                    for turn in range(12):
                        arguments = given(names, RIGHT)
                        for name in several:
                            arguments[name] = WRONG[name][turn % len(WRONG[name])]
                        self.check(function, arguments, several[0])

    def test_any_last_value_behind_wrong_ones(self):
        for value in (None, "x", True, (0, 1), [None], {}, 5, [[0]], object()):
            for wrong in WRONG["lead"]:
                self.check(walks.is_walk, {"lead": wrong, "scores": S, "order": O, "value": value}, "lead")
            for wrong in WRONG["scores"]:
                self.check(walks.is_walk, {"lead": 3, "scores": wrong, "order": O, "value": value}, "scores")
                self.check(orders.is_order, {"scores": wrong, "value": value}, "scores")
            for wrong in WRONG["order"]:
                self.check(walks.is_walk, {"lead": 3, "scores": S, "order": wrong, "value": value}, "order")

    def test_orders_of_other_many_entries(self):
        for function, names in FUNCTIONS.items():
            if "order" not in names:
                continue
            for scores, order in (([4], []), ([4], [1]), ([4], [-1]), ([4], [False]), ([4], [0, 1]), ([4, 9], [0]),
                                  ([4, 9], [True, False]), ([4] * 28, list(range(27))), ([4] * 28, list(range(29)))):
                source = dict(RIGHT, scores=scores, order=order, entry=0)
                self.check(function, given(names, source), "order")

    def test_entries_of_other_many_entries(self):
        for function in (orders.with_score, orders.without_entry):
            names = FUNCTIONS[function]
            for many, entry in ((1, 1), (1, -1), (1, True), (1, False), (2, 2), (28, 28), (28, -28)):
                source = dict(RIGHT, scores=[4] * many, order=list(range(many)), entry=entry)
                self.check(function, given(names, source), "entry")

    def test_too_many_entries_behind_all_other_errors(self):
        right = {"lead": 3, "scores": list(range(28)), "order": list(range(28)), "score": 7}
        for name, bad in (("lead", 0), ("lead", True), ("order", list(range(27))), ("order", None),
                          ("score", True), ("score", "x"), ("score", None)):
            self.check(orders.with_entry, dict(right, **{name: bad}), name)
        self.check(orders.with_entry, right, "scores")

    def test_too_few_entries_behind_all_other_errors(self):
        right = {"lead": 3, "scores": [7], "order": [0], "entry": 0}
        for name, bad in (("lead", 0), ("lead", True), ("order", [1]), ("order", None),
                          ("entry", 1), ("entry", -1), ("entry", False), ("entry", None)):
            self.check(orders.without_entry, dict(right, **{name: bad}), name)
        self.check(orders.without_entry, right, "scores")


class UnchangedArguments(unittest.TestCase):

    def test_right_arguments_stay(self):
        for function, names in FUNCTIONS.items():
            for source in SOURCES:
                arguments = given(names, source)
                before = copy.deepcopy(arguments)
                answer(function, **arguments)
                self.assertEqual(arguments, before, function)

    def test_arguments_stay_when_an_error_is_raised(self):
        for function, names in FUNCTIONS.items():
            for name in names:
                for wrong in [one for one in WRONG.get(name, []) if type(one) is not object]:
                    arguments = given(names, RIGHT)
                    arguments[name] = copy.deepcopy(wrong)
                    before = copy.deepcopy(arguments)
                    with self.assertRaises(errors.BoardError):
                        answer(function, **arguments)
                    self.assertEqual(arguments, before, function)

    def test_arguments_stay_when_a_walk_breaks_off(self):
        for function in (walks.order_after, walks.is_complete, walks.is_walk):
            scores, order, walk = list(R), list(O), [0, 1, 1]
            try:
                function(3, scores, order, walk)
            except errors.InvalidWalkError as error:
                self.assertEqual(error.index, 2)
            self.assertEqual((scores, order, walk), (R, O, [0, 1, 1]))


class NewLists(unittest.TestCase):

    def test_no_list_is_an_argument_or_stands_twice(self):
        for function, names in FUNCTIONS.items():
            for source in SOURCES:
                arguments = given(names, source)
                first, second = answer(function, **arguments), answer(function, **arguments)
                self.assertEqual(first, second)
                every = lists_in(list(arguments.values()))[1:] + lists_in(first) + lists_in(second)
                self.assertEqual(len({id(one) for one in every}), len(every), function)

    def test_changed_answers_change_nothing(self):
        for function, names in FUNCTIONS.items():
            for source in SOURCES:
                arguments = given(names, source)
                expected = copy.deepcopy(answer(function, **arguments))
                for one in lists_in(answer(function, **arguments)):
                    one.clear()
                self.assertEqual(arguments, given(names, source))
                self.assertEqual(answer(function, **arguments), expected)

    def test_kinds_of_answers(self):
        kinds = {orders.is_scores: bool, orders.is_order: bool, orders.is_settled: bool, orders.wrong_places: list,
                 orders.settled_order: list, orders.with_score: list, orders.with_entry: list,
                 orders.without_entry: tuple, walks.is_walk: bool, walks.order_after: list, walks.is_complete: bool,
                 walks.count_exchanges: int, walks.turned_pairs: list}
        for function, kind in kinds.items():
            for source in SOURCES:
                self.assertIs(type(answer(function, **given(FUNCTIONS[function], source))), kind, function)
        scores, order = orders.without_entry(3, S, O, 1)
        self.assertEqual((type(scores), type(order)), (list, list))


if __name__ == "__main__":
    unittest.main()
