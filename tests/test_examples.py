"""The examples of [8], [11], [12], [14], [15], [16], [19], [20], [22] and [23], word for word."""

import doctest
import io
import unittest

from leadboard.orders import is_settled, settled_order, walk_orders
from leadboard.walks import is_complete, is_walk, order_after

ORDERS = """
>>> from leadboard.orders import is_settled, settled_order, walk_orders, with_entry, with_score, without_entry, wrong_places
>>> S, R, O = [4, 6, 8, 10], [4, 9, 8, 10], [0, 1, 2, 3]
>>> [is_settled(3, S, O), settled_order(3, R, O), settled_order(2, S, O), wrong_places(3, R, O), wrong_places(1, S, O)]
[True, [1, 2, 3, 0], [3, 2, 1, 0], [0], [0, 1, 2]]
>>> [list(walk_orders(3, R, O)), with_score(3, S, O, 1, 7), with_entry(3, S, O, 20), without_entry(3, S, O, 1)]
[[[0, 1, 2, 3], [1, 0, 2, 3], [1, 2, 0, 3], [1, 2, 3, 0]], [1, 2, 3, 0], [4, 0, 1, 2, 3], ([4, 8, 10], [1, 2, 0])]
"""

WALKS = """
>>> from leadboard.walks import count_exchanges, is_complete, is_walk, order_after, turned_pairs
>>> S, R, O = [4, 6, 8, 10], [4, 9, 8, 10], [0, 1, 2, 3]
>>> [is_walk(3, R, O, [0, 1, 2]), is_walk(3, R, O, [1]), order_after(3, R, O, [0, 1]), is_complete(3, R, O, [0, 1])]
[True, False, [1, 2, 0, 3], False]
>>> [count_exchanges(3, R, O), turned_pairs(3, R, O), count_exchanges(2, S, O), order_after(2, S, O, [2, 0])]
[3, [(0, 1), (0, 2), (0, 3)], 6, [1, 0, 3, 2]]
"""

CHAINS = """
>>> from leadboard.chains import chain_between, groups_of, holders_of, is_above, is_chain, is_close, order_with, place_span
>>> S, R, O, G = [4, 6, 8, 10], [4, 9, 8, 10], [0, 1, 2, 3], [4, 6, 8, 10, 20, 19]
>>> [is_close(3, S, 0, 1), is_close(3, S, 0, 2), chain_between(3, S, O, 0, 3), chain_between(3, R, O, 0, 3), is_chain(3, S, O, [0, 2])]
[True, False, [0, 1, 2, 3], None, False]
>>> [holders_of(3, S, O, 2), is_above(3, S, O, 0, 3), is_above(3, R, O, 0, 3), groups_of(3, G), place_span(3, G, 0), order_with(3, G, 0, 1)]
[[0, 1], True, False, [[4, 5], [0, 1, 2, 3]], (2, 5), None]
"""

LEADS = """
>>> from leadboard.leads import least_lead, leads_to, orders_by_lead
>>> S, R, O = [4, 6, 8, 10], [4, 9, 8, 10], [0, 1, 2, 3]
>>> [least_lead(S, O), least_lead(R, O), leads_to(R, O, [1, 2, 3, 0]), leads_to(R, O, O), leads_to(S, O, [1, 0, 2, 3])]
[3, 6, (3, 4), (6, None), None]
>>> orders_by_lead(R, O)
[(1, [3, 1, 2, 0]), (2, [1, 3, 2, 0]), (3, [1, 2, 3, 0]), (5, [1, 0, 2, 3]), (6, [0, 1, 2, 3])]
"""

COUNTS = """
>>> from leadboard.counts import count_settled, count_with_top, nth_settled, settled_rank
>>> S = [4, 6, 8, 10]
>>> [count_settled(3, S), [count_with_top(3, S, entry) for entry in range(4)], count_settled(1, S), count_settled(9, S)]
[8, [1, 1, 2, 4], 1, 24]
>>> [nth_settled(3, S, 0), nth_settled(3, S, 2), nth_settled(3, S, 7), settled_rank(3, S, [3, 0, 1, 2])]
[[0, 1, 2, 3], [2, 3, 0, 1], [3, 2, 1, 0], 4]
"""

LIFTS = """
>>> from leadboard.lifts import after_lifts, is_lift_plan, lift_plan, lifted, must_lift, same_lifts, short_lifts
>>> S, O = [4, 6, 8, 10], [0, 1, 2, 3]
>>> [lifted(3, S, O, 1), after_lifts(3, S, O, [1, 3]), must_lift(3, S, O, [3, 1, 2, 0]), lift_plan(3, S, O, [3, 1, 2, 0])]
[[1, 2, 3, 0], [3, 1, 2, 0], [1, 3], [1, 3]]
>>> [is_lift_plan(3, S, O, [3, 1, 2, 0], [3, 1]), short_lifts(3, S, [3, 1, 3, 1]), same_lifts(3, S, [0, 1], [1]), same_lifts(3, S, [1, 2], [2, 1])]
[True, [1, 3], True, False]
"""

HIDDEN = """
>>> from leadboard.hidden import HiddenBoard, find
>>> hidden = HiddenBoard(3, [4, 6, 8, 10], [0, 1, 2, 3])
>>> [hidden.ask([]), hidden.ask([(1, 1)]), hidden.ask([(1, 9), (1, -9)]), hidden.questions, find(hidden), hidden.entries]
[[0, 1, 2, 3], [1, 2, 3, 0], [1, 2, 3, 0], 3, (3, [0, 2, 4, 6]), 4]
"""

BOARDS = """
>>> from leadboard.boards import Board, LockedCountingBoard
>>> board = Board(3, [4, 6, 8, 10])
>>> [board.order, board.set_score(1, 7), board.order, board.tried((0, 99), (2, 0)), board.undo(), board.lift(3), board.order, board.place_of(0)]
[[0, 1, 2, 3], 0, [1, 2, 3, 0], [0, 3, 1, 2], None, 0, [3, 0, 1, 2], 1]
>>> board = LockedCountingBoard(3, [4, 9, 8, 10], [2])
>>> [board.order, board.add_points(0, 9), board.order, board.exchanges, board.lift(0), board.described()]
[[1, 2, 3, 0], 0, [0, 1, 2, 3], 3, 0, ['entries 4', 'lead 3', 'locked 1', 'exchanges 3']]
"""

TEXT = """
>>> from leadboard.text import format_board, parse_board, table_of
>>> [format_board([4, -6, 8], [1, 0, 2]), parse_board("1:-6 0:4 2:8")]
['1:-6 0:4 2:8', ([4, -6, 8], [1, 0, 2])]
>>> table_of(3, [4, -6, 8], [1, 0, 2])
[' 0   1          -6', ' 1   0           4 ^', ' 2   2           8 ^']
"""


class Examples(unittest.TestCase):

    def run_example(self, name, text):
        test = doctest.DocTestParser().get_doctest(text, {}, name, None, 0)
        told = io.StringIO()
        found = doctest.DocTestRunner().run(test, out=told.write)
        self.assertEqual(found.attempted, text.count(">>> "))
        self.assertEqual(found.failed, 0, told.getvalue())

    def test_orders(self):
        self.run_example("orders", ORDERS)

    def test_walks(self):
        self.run_example("walks", WALKS)

    def test_chains(self):
        self.run_example("chains", CHAINS)

    def test_leads(self):
        self.run_example("leads", LEADS)

    def test_counts(self):
        self.run_example("counts", COUNTS)

    def test_lifts(self):
        self.run_example("lifts", LIFTS)

    def test_hidden(self):
        self.run_example("hidden", HIDDEN)

    def test_boards(self):
        self.run_example("boards", BOARDS)

    def test_text(self):
        self.run_example("text", TEXT)

    def test_definitions(self):
        S, R, O = [4, 6, 8, 10], [4, 9, 8, 10], [0, 1, 2, 3]
        self.assertIs(is_settled(3, S, O), True)
        self.assertEqual(sorted(O, key=lambda entry: S[entry]), O)
        self.assertIs(is_walk(3, R, O, [0, 1, 2]), True)
        self.assertIs(is_complete(3, R, O, [0, 1, 2]), True)
        self.assertEqual(order_after(3, R, O, [0, 1, 2]), [1, 2, 3, 0])
        self.assertEqual(settled_order(3, R, O), [1, 2, 3, 0])
        self.assertEqual(list(walk_orders(3, R, O))[-1], [1, 2, 3, 0])


if __name__ == "__main__":
    unittest.main()
