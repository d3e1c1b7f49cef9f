"""[3] and [5]: wrong arguments, unchanged arguments, new lists and arguments by name, for every function."""

import copy
import inspect
import itertools
import random
import types
import unittest

from leadboard import chains, counts, errors, leads, lifts, orders, text, walks
from tests.rankings import HUGE, O, R, S

NO_INTEGERS = [True, False, None, "3", "", "x", 3.0, 1.5, [3], [], (3,), (), {}, {3: 3}, b"3", object()]
ITEMS = [True, False, None, "1", 1.0, [1], (1,), {}]

WRONG = {
    "lead": [0, -1, -3, -HUGE] + NO_INTEGERS,
    "scores": [(4, 9, 8, 10), "4 9", None, {}, {0: 4}, True, False, 4, 1.5, [], [4] * 29, [4] * 400, [[4, 9, 8, 10]],
               object()] + [[4, 9, 8, item] for item in ITEMS] + [[item, 9, 8, 10] for item in ITEMS],
    "order": [(0, 1, 2, 3), "0123", None, {}, {0: 0, 1: 1, 2: 2, 3: 3}, True, False, 4, 1.5, [], [0], [0, 1, 2],
              [0, 1, 2, 3, 4], [0, 1, 2, 2], [0, 0, 1, 2], [0, 1, 2, 4], [1, 2, 3, 4], [-1, 0, 1, 2], [0, 1, 2, -1],
              [0, 1, 2, HUGE], [[0, 1, 2, 3]], [False, True, 2, 3], object()] + [[0, item, 2, 3] for item in ITEMS],
    "entry": [-1, -4, 4, 5, 28, HUGE, -HUGE] + NO_INTEGERS,
    "place": [-1, -4, 4, 5, 28, HUGE, -HUGE] + NO_INTEGERS,
    "score": NO_INTEGERS,
    "index": [-1, -6, 6, 7, 24, HUGE, -HUGE] + NO_INTEGERS,
    "text": ["", " ", "0", "0:", ":4", "0;4", "1:4", "0:4 ", " 0:4", "0:4  1:5", "0:4 0:5", "0:+4", "0:-0", "0:04",
             b"0:4", ["0:4"], ("0:4",), [("0", "4")], None, True, 4, 1.5, {}, object()],
    "lifts": [(1, 2), (), "12", "", None, {}, {1: 2}, {1, 2}, True, False, 0, 4, 1.5, [4], [-1], [0, 1, 2, 3, 4],
              [1, -4], [HUGE], [1] * 101, [0, 1] * 200, [[1, 2]], [[]], object()] + [[item] for item in ITEMS] +
             [[1, item, 2] for item in ITEMS] + [[1] * 99 + [item] for item in ITEMS],
    "walk": [(0, 1, 2), "012", None, {}, True, 3, [1], [0, 1, 2, 3], [0, 0], [-1], [3], [False], ["0"], [None], [[0]]],
}

WRONG["goal"] = WRONG["order"]
WRONG["other"] = WRONG["upper"] = WRONG["lower"] = WRONG["entry"]
WRONG["other_lifts"] = WRONG["lifts"]

ERRORS = {
    "lead": errors.InvalidLeadError,
    "scores": errors.InvalidScoresError,
    "order": errors.InvalidOrderError,
    "entry": errors.InvalidEntryError,
    "place": errors.InvalidNumberError,
    "score": errors.InvalidNumberError,
    "index": errors.InvalidNumberError,
    "text": errors.InvalidFormatError,
    "lifts": errors.InvalidLiftsError,
    "walk": errors.InvalidWalkError,
}
ERRORS["goal"] = ERRORS["order"]
ERRORS["other"] = ERRORS["upper"] = ERRORS["lower"] = ERRORS["entry"]
ERRORS["other_lifts"] = ERRORS["lifts"]

# The parameters of which an entry is passed, and those of which lifts are.
ENTRIES = ("entry", "other", "upper", "lower")
LIFTS = ("lifts", "other_lifts")

RIGHT = {"lead": 3, "scores": R, "order": O, "entry": 1, "score": 7, "walk": [0, 1], "value": [0, 1],
         "other": 3, "upper": 1, "lower": 3, "place": 2, "goal": [1, 2, 3, 0], "settled": [3, 2, 1, 0],
         "lifts": [1, 3, 1], "other_lifts": [3, 2], "index": 5, "text": "1:-6 0:4 2:8"}

# A ranking of which nothing changes, so that an argument itself could be returned by mistake.
STILL = {"lead": 3, "scores": S, "order": O, "entry": 1, "score": 6, "walk": [], "value": [],
         "other": 2, "upper": 1, "lower": 2, "place": 1, "goal": O, "settled": O, "lifts": [], "other_lifts": [],
         "index": 0, "text": "0:4"}

# A ranking of which no list is ascending.
MIXED = {"lead": 2, "scores": [6, 4, 10, 8], "order": [3, 2, 0, 1], "entry": 2, "score": 5, "walk": [0],
         "value": [3, 2, 0, 1], "other": 0, "upper": 3, "lower": 1, "place": 0, "goal": [2, 3, 0, 1],
         "settled": [2, 3, 0, 1], "lifts": [3, 2, 0, 1], "other_lifts": [2, 0], "index": 0, "text": "0:0 1:1"}

# A walk that goes upwards.
UPWARDS = {"lead": 2, "scores": S, "order": O, "entry": 0, "score": HUGE, "walk": [2, 0, 1], "value": [2, 0, 1],
           "other": 0, "upper": 0, "lower": 0, "place": 3, "goal": [3, 2, 1, 0], "settled": [3, 2, 1, 0],
           "lifts": [0], "other_lifts": [0], "index": 0, "text": "1:0 0:-1"}

# A lead for which all entries are close.
CLOSE = dict(RIGHT, lead=99, walk=[], goal=[3, 0, 2, 1], lifts=[2, 0, 3], value=[2, 0, 3, 1], index=23)

SOURCES = [RIGHT, STILL, MIXED, UPWARDS, CLOSE]

IN_ORDERS = {
    orders.is_scores: ("value",),
    orders.is_order: ("scores", "value"),
    orders.is_settled: ("lead", "scores", "order"),
    orders.wrong_places: ("lead", "scores", "order"),
    orders.settled_order: ("lead", "scores", "order"),
    orders.walk_orders: ("lead", "scores", "order"),
    orders.with_score: ("lead", "scores", "order", "entry", "score"),
    orders.with_entry: ("lead", "scores", "order", "score"),
    orders.without_entry: ("lead", "scores", "order", "entry"),
}

IN_WALKS = {
    walks.is_walk: ("lead", "scores", "order", "value"),
    walks.order_after: ("lead", "scores", "order", "walk"),
    walks.is_complete: ("lead", "scores", "order", "walk"),
    walks.count_exchanges: ("lead", "scores", "order"),
    walks.turned_pairs: ("lead", "scores", "order"),
}

IN_CHAINS = {
    chains.is_close: ("lead", "scores", "entry", "other"),
    chains.is_chain: ("lead", "scores", "order", "value"),
    chains.chain_between: ("lead", "scores", "order", "upper", "lower"),
    chains.holders_of: ("lead", "scores", "order", "entry"),
    chains.is_above: ("lead", "scores", "order", "entry", "other"),
    chains.groups_of: ("lead", "scores"),
    chains.place_span: ("lead", "scores", "entry"),
    chains.order_with: ("lead", "scores", "entry", "place"),
}

IN_LEADS = {
    leads.least_lead: ("scores", "order"),
    leads.orders_by_lead: ("scores", "order"),
    leads.leads_to: ("scores", "order", "goal"),
}

IN_LIFTS = {
    lifts.lifted: ("lead", "scores", "order", "entry"),
    lifts.after_lifts: ("lead", "scores", "order", "lifts"),
    lifts.must_lift: ("lead", "scores", "order", "goal"),
    lifts.is_lift_plan: ("lead", "scores", "order", "goal", "value"),
    lifts.lift_plan: ("lead", "scores", "order", "goal"),
    lifts.short_lifts: ("lead", "scores", "lifts"),
    lifts.same_lifts: ("lead", "scores", "lifts", "other_lifts"),
    lifts.parting_order: ("lead", "scores", "lifts", "other_lifts"),
    lifts.is_parting: ("lead", "scores", "lifts", "other_lifts", "value"),
}

IN_COUNTS = {
    counts.count_settled: ("lead", "scores"),
    counts.count_with_top: ("lead", "scores", "entry"),
    counts.nth_settled: ("lead", "scores", "index"),
    counts.settled_rank: ("lead", "scores", "order"),
}

IN_TEXT = {
    text.format_board: ("scores", "order"),
    text.parse_board: ("text",),
    text.table_of: ("lead", "scores", "order"),
}

MODULES = {orders: IN_ORDERS, walks: IN_WALKS, chains: IN_CHAINS, leads: IN_LEADS, lifts: IN_LIFTS, counts: IN_COUNTS,
           text: IN_TEXT}
FUNCTIONS = {function: names for functions in MODULES.values() for function, names in functions.items()}


KINDS = {
    **dict.fromkeys(("is_scores", "is_order", "is_settled", "is_walk", "is_complete", "is_close", "is_chain",
                     "is_above", "is_lift_plan", "same_lifts", "is_parting"), (bool,)),
    **dict.fromkeys(("wrong_places", "settled_order", "walk_orders", "with_score", "with_entry", "order_after",
                     "turned_pairs", "holders_of", "groups_of", "orders_by_lead", "lifted", "after_lifts",
                     "must_lift", "lift_plan", "short_lifts", "nth_settled", "table_of"), (list,)),
    **dict.fromkeys(("chain_between", "order_with", "parting_order"), (list, type(None))),
    **dict.fromkeys(("without_entry", "place_span", "parse_board"), (tuple,)),
    **dict.fromkeys(("count_exchanges", "least_lead", "count_settled", "count_with_top", "settled_rank"), (int,)),
    "leads_to": (tuple, type(None)), "format_board": (str,),
}


def answer(function, *values, **named):
    """What a function returns, or the list of what it yields."""
    returned = function(*values, **named)
    return list(returned) if function is orders.walk_orders else returned


def given(function, source):
    """The arguments of a function by their names, as copies. Lifts and ranks begin with an order that is settled."""
    if function in IN_LIFTS or function is counts.settled_rank:
        source = dict(source, order=source["settled"])
    return {name: copy.deepcopy(source[name]) for name in FUNCTIONS[function]}


def lists_in(value):
    """All lists within a value, itself included."""
    found = [value] if isinstance(value, list) else []
    if isinstance(value, (list, tuple)):
        for item in value:
            found = found + lists_in(item)
    return found


class Interface(unittest.TestCase):

    def test_names_and_parameters(self):
        for function, names in FUNCTIONS.items():
            self.assertIs(type(function), types.FunctionType)
            self.assertEqual(tuple(inspect.signature(function).parameters), names, function)

    def test_defined_where_they_are_listed(self):
        for module, functions in MODULES.items():
            for function in functions:
                self.assertEqual(function.__module__, module.__name__, function)

    def test_by_position_and_by_name(self):
        for function, names in FUNCTIONS.items():
            for source in SOURCES:
                arguments = given(function, source)
                by_position = answer(function, *arguments.values())
                by_name = answer(function, **arguments)
                backwards = answer(function, **{name: arguments[name] for name in reversed(names)})
                self.assertEqual(by_position, by_name, function)
                self.assertEqual(by_position, backwards, function)


class WrongArguments(unittest.TestCase):

    def check(self, function, arguments, name):
        with self.assertRaises(errors.BoardError) as caught:
            answer(function, **arguments)
        self.assertIs(type(caught.exception), ERRORS[name], (function, arguments))
        with self.assertRaises(ERRORS[name]):
            answer(function, *arguments.values())

    def test_each_argument_wrong_by_itself(self):
        for function, names in FUNCTIONS.items():
            for name in names:
                for wrong in WRONG.get(name, []):
                    arguments = given(function, RIGHT)
                    arguments[name] = wrong
                    self.check(function, arguments, name)

    def test_the_first_wrong_parameter_decides(self):
        for function, names in FUNCTIONS.items():
            able = [name for name in names if name in WRONG]
            for many in range(2, len(able) + 1):
                for several in itertools.combinations(able, many):
                    for turn in range(12):
                        arguments = given(function, RIGHT)
                        for name in several:
                            arguments[name] = WRONG[name][turn % len(WRONG[name])]
                        self.check(function, arguments, several[0])

    def test_any_last_value_behind_wrong_ones(self):
        for function, names in FUNCTIONS.items():
            if "value" not in names:
                continue
            for value in (None, "x", True, (0, 1), [None], {}, 5, [[0]], object()):
                for name in names[:-1]:
                    for wrong in WRONG[name]:
                        self.check(function, dict(given(function, RIGHT), **{name: wrong, "value": value}), name)

    def test_orders_of_other_many_entries(self):
        for function, names in FUNCTIONS.items():
            for scores, order in (([4], []), ([4], [1]), ([4], [-1]), ([4], [False]), ([4], [0, 1]), ([4, 9], [0]),
                                  ([4, 9], [True, False]), ([4] * 28, list(range(27))), ([4] * 28, list(range(29)))):
                right = list(range(len(scores)))[::-1]
                source = dict(RIGHT, scores=scores, order=right, settled=right, goal=right, entry=0, value=[])
                for name in [name for name in ("order", "goal") if name in names]:
                    self.check(function, dict(given(function, source), **{name: order}), name)

    def test_entries_of_other_many_entries(self):
        cases = ((1, 1), (1, -1), (1, True), (1, False), (2, 2), (2, -2), (28, 28), (28, -28), (28, -1))
        for function, names in FUNCTIONS.items():
            for many, entry in cases:
                source = dict(RIGHT, scores=[4] * many, order=list(range(many)), settled=list(range(many)), value=[])
                source.update({name: 0 for name in ENTRIES + ("place",)}, **{name: [0] for name in LIFTS})
                for name in [name for name in names if name in ENTRIES + ("place",)]:
                    self.check(function, dict(given(function, source), **{name: entry}), name)
                for name in [name for name in names if name in LIFTS]:
                    self.check(function, dict(given(function, source), **{name: [0, entry]}), name)

    def test_too_many_entries_behind_all_other_errors(self):
        right = {"lead": 3, "scores": list(range(28)), "order": list(range(28)), "score": 7}
        for name, bad in (("lead", 0), ("lead", True), ("order", list(range(27))), ("order", None),
                          ("score", True), ("score", "x"), ("score", None)):
            self.check(orders.with_entry, dict(right, **{name: bad}), name)
        self.check(orders.with_entry, right, "scores")

    def test_too_few_entries_behind_all_other_errors(self):
        right = {"lead": 3, "scores": [7], "order": [0], "entry": 0}
        for name, bad in (("lead", 0), ("lead", True), ("order", [1]), ("order", None),
                          ("entry", 1), ("entry", -1), ("entry", False), ("entry", None)):
            self.check(orders.without_entry, dict(right, **{name: bad}), name)
        self.check(orders.without_entry, right, "scores")


class UnchangedArguments(unittest.TestCase):

    def test_right_arguments_stay(self):
        for function, names in FUNCTIONS.items():
            for source in SOURCES:
                arguments = given(function, source)
                before = copy.deepcopy(arguments)
                answer(function, **arguments)
                self.assertEqual(arguments, before, function)

    def test_arguments_stay_when_an_error_is_raised(self):
        for function, names in FUNCTIONS.items():
            for name in names:
                for wrong in [one for one in WRONG.get(name, []) if type(one) is not object]:
                    arguments = given(function, RIGHT)
                    arguments[name] = copy.deepcopy(wrong)
                    before = copy.deepcopy(arguments)
                    with self.assertRaises(errors.BoardError):
                        answer(function, **arguments)
                    self.assertEqual(arguments, before, function)

    def test_arguments_stay_when_a_walk_breaks_off(self):
        for function in (walks.order_after, walks.is_complete, walks.is_walk):
            scores, order, walk = list(R), list(O), [0, 1, 1]
            try:
                function(3, scores, order, walk)
            except errors.InvalidWalkError as error:
                self.assertEqual(error.index, 2)
            self.assertEqual((scores, order, walk), (R, O, [0, 1, 1]))


class NewLists(unittest.TestCase):

    def test_no_list_is_an_argument_or_stands_twice(self):
        for function, names in FUNCTIONS.items():
            for source in SOURCES:
                arguments = given(function, source)
                first, second = answer(function, **arguments), answer(function, **arguments)
                self.assertEqual(first, second)
                every = lists_in(list(arguments.values()))[1:] + lists_in(first) + lists_in(second)
                self.assertEqual(len({id(one) for one in every}), len(every), function)

    def test_changed_answers_change_nothing(self):
        for function, names in FUNCTIONS.items():
            for source in SOURCES:
                arguments = given(function, source)
                expected = copy.deepcopy(answer(function, **arguments))
                for one in lists_in(answer(function, **arguments)):
                    one.clear()
                self.assertEqual(arguments, given(function, source))
                self.assertEqual(answer(function, **arguments), expected)

    def test_kinds_of_answers(self):
        for function in FUNCTIONS:
            for source in SOURCES:
                told = answer(function, **given(function, source))
                self.assertIn(type(told), KINDS[function.__name__], function)
        scores, order = orders.without_entry(3, S, O, 1)
        self.assertEqual((type(scores), type(order)), (list, list))


class Independence(unittest.TestCase):

    def test_calls_do_not_know_of_each_other(self):
        calls = [(function, number) for function in FUNCTIONS for number in range(len(SOURCES))]
        expected = {call: answer(call[0], **given(call[0], SOURCES[call[1]])) for call in calls}
        draw = random.Random(91)
        for turn in range(4):
            for function, number in draw.sample(calls, len(calls)):
                told = answer(function, **given(function, SOURCES[number]))
                self.assertEqual(told, expected[function, number], function)

    def test_calls_do_not_know_of_errors_ahead(self):
        for function, names in FUNCTIONS.items():
            expected = answer(function, **given(function, RIGHT))
            for name in [name for name in names if name in WRONG]:
                with self.assertRaises(ERRORS[name]):
                    answer(function, **dict(given(function, RIGHT), **{name: WRONG[name][0]}))
                self.assertEqual(answer(function, **given(function, RIGHT)), expected, function)


if __name__ == "__main__":
    unittest.main()
