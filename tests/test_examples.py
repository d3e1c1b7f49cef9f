"""The examples of [8], [11] and [12], word for word."""

import doctest
import io
import unittest

from leadboard.orders import is_settled, settled_order, walk_orders
from leadboard.walks import is_complete, is_walk, order_after

ORDERS = """
>>> from leadboard.orders import is_settled, settled_order, walk_orders, with_entry, with_score, without_entry, wrong_places
>>> S, R, O = [4, 6, 8, 10], [4, 9, 8, 10], [0, 1, 2, 3]
>>> [is_settled(3, S, O), settled_order(3, R, O), settled_order(2, S, O), wrong_places(3, R, O), wrong_places(1, S, O)]
[True, [1, 2, 3, 0], [3, 2, 1, 0], [0], [0, 1, 2]]
>>> [list(walk_orders(3, R, O)), with_score(3, S, O, 1, 7), with_entry(3, S, O, 20), without_entry(3, S, O, 1)]
[[[0, 1, 2, 3], [1, 0, 2, 3], [1, 2, 0, 3], [1, 2, 3, 0]], [1, 2, 3, 0], [4, 0, 1, 2, 3], ([4, 8, 10], [1, 2, 0])]
"""

WALKS = """
>>> from leadboard.walks import count_exchanges, is_complete, is_walk, order_after, turned_pairs
>>> S, R, O = [4, 6, 8, 10], [4, 9, 8, 10], [0, 1, 2, 3]
>>> [is_walk(3, R, O, [0, 1, 2]), is_walk(3, R, O, [1]), order_after(3, R, O, [0, 1]), is_complete(3, R, O, [0, 1])]
[True, False, [1, 2, 0, 3], False]
>>> [count_exchanges(3, R, O), turned_pairs(3, R, O), count_exchanges(2, S, O), order_after(2, S, O, [2, 0])]
[3, [(0, 1), (0, 2), (0, 3)], 6, [1, 0, 3, 2]]
"""


class Examples(unittest.TestCase):

    def run_example(self, name, text):
        test = doctest.DocTestParser().get_doctest(text, {}, name, None, 0)
        told = io.StringIO()
        found = doctest.DocTestRunner().run(test, out=told.write)
        self.assertEqual(found.attempted, 4)
        self.assertEqual(found.failed, 0, told.getvalue())

    def test_orders(self):
        self.run_example("orders", ORDERS)

    def test_walks(self):
        self.run_example("walks", WALKS)

    def test_definitions(self):
        S, R, O = [4, 6, 8, 10], [4, 9, 8, 10], [0, 1, 2, 3]
        self.assertIs(is_settled(3, S, O), True)
        self.assertEqual(sorted(O, key=lambda entry: S[entry]), O)
        self.assertIs(is_walk(3, R, O, [0, 1, 2]), True)
        self.assertIs(is_complete(3, R, O, [0, 1, 2]), True)
        self.assertEqual(order_after(3, R, O, [0, 1, 2]), [1, 2, 3, 0])
        self.assertEqual(settled_order(3, R, O), [1, 2, 3, 0])
        self.assertEqual(list(walk_orders(3, R, O))[-1], [1, 2, 3, 0])


if __name__ == "__main__":
    unittest.main()
