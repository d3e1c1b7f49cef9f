"""[5], [16] and [17]: an order and a goal that must be settled."""

import copy
import itertools
import unittest

from leadboard import errors
from leadboard.counts import settled_rank
from leadboard.lifts import after_lifts, is_lift_plan, lift_plan, lifted, must_lift
from tests.rankings import O, R, S, all_wrong, drawn_rankings, left_order

# What stands behind the order, right and wrong: every function with one order that must be settled.
BEHIND = [(lifted, {"entry": 1}, {"entry": 4}), (after_lifts, {"lifts": [1]}, {"lifts": [4]}), (settled_rank, {}, {})]
WITH_GOAL = [must_lift, lift_plan, is_lift_plan]


def arguments_of(function, lead, scores, order, goal):
    arguments = {"lead": lead, "scores": scores, "order": order, "goal": goal}
    return dict(arguments, value=[]) if function is is_lift_plan else arguments


class NotSettled(unittest.TestCase):

    def check(self, function, arguments, place):
        before = copy.deepcopy(arguments)
        with self.assertRaises(errors.NotSettledError) as caught:
            function(**arguments)
        self.assertEqual(caught.exception.place, place, (function, arguments))
        self.assertIs(type(caught.exception.place), int)
        self.assertEqual(arguments, before)
        with self.assertRaises(errors.NotSettledError):
            function(*arguments.values())

    def check_other(self, kind, function, arguments):
        with self.assertRaises(errors.BoardError) as caught:
            function(**arguments)
        self.assertIs(type(caught.exception), kind, (function, arguments))

    def check_ranking(self, lead, scores, order):
        """Checks an order that is not settled, as an order and as a goal."""
        place, left = all_wrong(lead, scores, order)[0], left_order(lead, scores, order)
        self.check(lifted, {"lead": lead, "scores": scores, "order": order, "entry": 0}, place)
        self.check(after_lifts, {"lead": lead, "scores": scores, "order": order, "lifts": []}, place)
        self.check(settled_rank, {"lead": lead, "scores": scores, "order": order}, place)
        for function in WITH_GOAL:
            self.check(function, arguments_of(function, lead, scores, order, left), place)
            self.check(function, arguments_of(function, lead, scores, left, order), place)
            self.check(function, arguments_of(function, lead, scores, order, order), place)

    def test_the_least_wrong_place(self):
        self.check_ranking(3, R, O)
        self.check_ranking(1, S, O)
        self.check_ranking(3, S, [1, 0, 2, 3])
        self.check_ranking(3, [0, 1, 5, 9], [1, 0, 2, 3])
        self.check_ranking(1, list(range(28)), list(range(27, 1, -1)) + [0, 1])

    def test_all_orders_that_are_not_settled(self):
        for lead, scores in ((1, S), (2, S), (3, S), (3, R), (4, [7, 1, 12, 5]), (2, [1, 5, 1, 3])):
            for order in itertools.permutations(range(4)):
                if all_wrong(lead, scores, list(order)):
                    self.check_ranking(lead, scores, list(order))

    def test_drawn_orders(self):
        for lead, scores, order in drawn_rankings(92, 200, 2, 28):
            if all_wrong(lead, scores, order):
                self.check_ranking(lead, scores, order)

    def test_exactly_the_lead_and_one_less(self):
        for lead in (1, 2, 5, 10 ** 30):
            self.check_ranking(lead, [-3, lead - 3], [0, 1])
            self.assertEqual(lifted(lead, [-3, lead - 4], [0, 1], 0), [0, 1])
            self.assertEqual(must_lift(lead, [-3, lead - 4], [0, 1], [1, 0]), [1])

    def test_the_order_ahead_of_the_goal(self):
        first, second = [0, 1, 2, 3], [3, 2, 0, 1]
        for function in WITH_GOAL:
            self.check(function, arguments_of(function, 1, S, first, second), 0)
            self.check(function, arguments_of(function, 1, S, second, first), 2)
            for goal in ([0, 1, 2], (3, 2, 1, 0), None, [0, 1, 2, True]):
                self.check(function, arguments_of(function, 1, S, second, goal), 2)
                self.check_other(errors.InvalidOrderError, function, arguments_of(function, 1, S, [3, 2, 1, 0], goal))
                self.check_other(errors.InvalidOrderError, function, arguments_of(function, 1, S, goal, first))
                self.check_other(errors.InvalidOrderError, function, arguments_of(function, 1, S, goal, goal))

    def test_ahead_of_what_stands_behind_the_order(self):
        for function, right, wrong in BEHIND:
            for behind in (right, wrong):
                self.check(function, dict({"lead": 1, "scores": S, "order": [3, 2, 0, 1]}, **behind), 2)

    def test_behind_what_stands_ahead(self):
        for function, right, wrong in BEHIND:
            for lead, scores, kind in ((0, S, errors.InvalidLeadError), (1, None, errors.InvalidScoresError)):
                for behind in (right, wrong):
                    for order in (O, [0, 1, 2, 2]):
                        ranking = {"lead": lead, "scores": scores, "order": order}
                        self.check_other(kind, function, dict(ranking, **behind))
            for behind in (right, wrong):
                for order in ([0, 1, 2], (3, 2, 1, 0), None, [0, 1, 2, True], [0, 1, 2, 2]):
                    ranking = {"lead": 1, "scores": S, "order": order}
                    self.check_other(errors.InvalidOrderError, function, dict(ranking, **behind))
        for function in WITH_GOAL:
            self.check_other(errors.InvalidLeadError, function, arguments_of(function, True, S, O, O))
            self.check_other(errors.InvalidScoresError, function, arguments_of(function, 1, [True, 1, 2, 3], O, O))
            self.check_other(errors.InvalidScoresError, function, arguments_of(function, 1, tuple(S), O, O))

    def test_any_value_behind_orders_that_are_not_settled(self):
        for value in (None, "x", True, (1, 2), [None], {}, 5, [[0]], [4], [0] * 101, object()):
            for order, goal, place in ((O, [3, 2, 1, 0], 0), ([3, 2, 1, 0], [3, 2, 0, 1], 2)):
                arguments = {"lead": 1, "scores": S, "order": order, "goal": goal, "value": value}
                with self.assertRaises(errors.NotSettledError) as caught:
                    is_lift_plan(**arguments)
                self.assertEqual(caught.exception.place, place)


if __name__ == "__main__":
    unittest.main()
