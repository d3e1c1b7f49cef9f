"""[2]: what holds over the whole program, its parts together."""

import itertools
import math
import random
import unittest

from leadboard.boards import CountingBoard, LockedCountingBoard
from leadboard.chains import groups_of, holders_of, is_above, is_chain, is_close, place_span
from leadboard.counts import count_settled, count_with_top, nth_settled, settled_rank
from leadboard.hidden import HiddenBoard, find
from leadboard.leads import least_lead, leads_to, orders_by_lead
from leadboard.lifts import after_lifts, is_lift_plan, lift_plan, lifted, must_lift, same_lifts, short_lifts
from leadboard.orders import is_settled, settled_order, with_entry, with_score, without_entry, wrong_places
from leadboard.text import format_board, parse_board, table_of
from leadboard.walks import count_exchanges, is_walk, turned_pairs
from tests.rankings import drawn_rankings, kinds_of_rankings, mixed_kinds_of_rankings


def board_with(lead, scores, order):
    """A board that stands in a settled order: only lifts lead there."""
    board = CountingBoard(lead, scores)
    for entry in lift_plan(lead, scores, board.order, order):
        board.lift(entry)
    return board


class BoardsAndFunctions(unittest.TestCase):

    def test_each_call_does_what_the_functions_do(self):
        draw = random.Random(271)
        for lead, scores, _ in drawn_rankings(272, 80, 1, 12):
            board = LockedCountingBoard(lead, scores, [])
            self.assertEqual(board.order, settled_order(lead, scores, list(range(len(scores)))))
            for _ in range(8):
                entry, score, points = draw.randrange(len(scores)), draw.randint(-20, 20), draw.randint(-20, 20)
                before, exchanges, order = board.scores, board.exchanges, board.order
                self.assertEqual(board.tried((entry, score)), with_score(lead, before, order, entry, score))
                told = board.set_score(entry, score)
                self.assertEqual(board.order, with_score(lead, before, order, entry, score))
                self.assertEqual(board.exchanges - exchanges, count_exchanges(lead, board.scores, order))
                self.assertEqual(told, board.order.index(entry))
                before, exchanges, order = board.scores, board.exchanges, board.order
                board.add_points(entry, points)
                self.assertEqual(board.order, with_score(lead, before, order, entry, before[entry] + points))
                self.assertEqual(board.exchanges - exchanges, count_exchanges(lead, board.scores, order))
                order = board.order
                board.lift(entry)
                self.assertEqual(board.order, lifted(lead, board.scores, order, entry))
                self.assertTrue(is_settled(lead, board.scores, board.order))

    def test_a_lift_is_two_scores(self):
        draw = random.Random(273)
        for lead, scores, _ in drawn_rankings(274, 80, 1, 12):
            first, second = CountingBoard(lead, scores), CountingBoard(lead, scores)
            for _ in range(4):
                entry, more = draw.randrange(len(scores)), draw.choice((0, 1, 10 ** 30))
                second.set_score(entry, max(scores) + lead + more)
                second.set_score(entry, scores[entry])
                self.assertEqual(first.lift(entry), second.place_of(entry))
                self.assertEqual((first.order, first.exchanges), (second.order, second.exchanges))

    def test_ranks_and_strings_lead_back(self):
        draw = random.Random(275)
        for lead, scores, _ in drawn_rankings(276, 60, 1, 28):
            board = CountingBoard(lead, scores)
            for _ in range(3):
                board.set_score(draw.randrange(len(scores)), draw.randint(-20, 20))
                rank = settled_rank(lead, board.scores, board.order)
                self.assertTrue(0 <= rank < count_settled(lead, board.scores))
                self.assertEqual(nth_settled(lead, board.scores, rank), board.order)
                self.assertEqual(parse_board(format_board(board.scores, board.order)), (board.scores, board.order))
                marked = [row for row in table_of(lead, board.scores, board.order) if row.endswith("^")]
                self.assertEqual(marked, [])

    def test_a_hidden_board_answers_as_a_board(self):
        draw = random.Random(277)
        for lead, scores, _ in drawn_rankings(278, 60, 1, 9):
            board = CountingBoard(lead, scores)
            hidden = HiddenBoard(lead, scores, list(range(len(scores))))
            for count in (0, 1, 5, 20):
                changes = [(draw.randrange(len(scores)), draw.randint(-20, 20)) for _ in range(count)]
                for change in changes:
                    board.add_points(*change)
                self.assertEqual(hidden.ask(changes), board.order)
                for _ in changes:
                    board.undo()
            if len(scores) > 1:
                self.assertEqual(find(hidden), (lead, [score - scores[0] for score in scores]))

    def test_the_lead_that_fits(self):
        for lead, scores, order in drawn_rankings(279, 60, 1, 10):
            left = CountingBoard(lead, scores).order
            least, greatest = leads_to(scores, list(range(len(scores))), left)
            self.assertTrue(least <= lead and (greatest is None or lead <= greatest))
            self.assertLessEqual(least_lead(scores, left), lead)
            self.assertEqual(CountingBoard(least, scores).order, left)


class CountsAndLifts(unittest.TestCase):

    def every_ranking(self):
        for many in (1, 2, 3):
            yield from kinds_of_rankings(many)
        yield from mixed_kinds_of_rankings(4, 281)

    def test_plans_done_on_a_board_lead_from_each_order_to_each(self):
        for lead, scores in self.every_ranking():
            every = [nth_settled(lead, scores, index) for index in range(count_settled(lead, scores))]
            boards = [board_with(lead, scores, order) for order in every]
            self.assertEqual([board.order for board in boards], every)
            for board, goal in itertools.product(boards, every):
                plan, start = lift_plan(lead, scores, board.order, goal), board.order
                self.assertEqual(must_lift(lead, scores, start, goal), sorted(set(plan)))
                self.assertEqual(len(plan), len(set(plan)))
                for entry in plan:
                    board.lift(entry)
                self.assertEqual((board.order, board.scores), (goal, scores))
                for _ in plan:
                    board.undo()
                self.assertEqual(board.order, start)

    def test_lifts_lead_to_as_many_orders_as_are_counted(self):
        for lead, scores in self.every_ranking():
            found = [settled_order(lead, scores, list(range(len(scores))))]
            for order in found:
                for entry in range(len(scores)):
                    following = lifted(lead, scores, order, entry)
                    if following not in found:
                        found.append(following)
            self.assertEqual(len(found), count_settled(lead, scores))
            for entry in range(len(scores)):
                self.assertEqual(sum(order[0] == entry for order in found), count_with_top(lead, scores, entry))

    def test_plans_between_drawn_orders_of_28_entries(self):
        draw = random.Random(282)
        for lead, scores, _ in drawn_rankings(283, 12, 28, 28):
            many = count_settled(lead, scores)
            start, goal = (nth_settled(lead, scores, draw.randrange(many)) for _ in range(2))
            board, plan = board_with(lead, scores, start), lift_plan(lead, scores, start, goal)
            for entry in plan:
                board.lift(entry)
            self.assertEqual(settled_rank(lead, scores, board.order), settled_rank(lead, scores, goal))
            self.assertTrue(is_lift_plan(lead, scores, start, goal, plan))
            self.assertEqual(after_lifts(lead, scores, start, plan), goal)

    def test_steps_of_a_settled_order(self):
        for lead, scores, order in drawn_rankings(284, 80, 1, 28):
            left = settled_order(lead, scores, order)
            for upper, lower in itertools.combinations(range(len(left)), 2):
                self.assertLessEqual(scores[left[lower]] - scores[left[upper]], (lower - upper) * (lead - 1))
                if scores[left[lower]] - scores[left[upper]] >= lead:
                    self.assertIn(left[upper], holders_of(lead, scores, left, left[lower]))

    def test_a_new_entry_at_the_bottom_holds_nothing_back(self):
        for lead, scores, order in drawn_rankings(291, 80, 1, 10):
            left = with_entry(lead, scores, order, 7)
            self.assertEqual([entry for entry in left if entry < len(scores)], settled_order(lead, scores, order))
            self.assertEqual(without_entry(lead, scores + [7], left, len(scores)),
                             (scores, settled_order(lead, scores, order)))

    def test_upside_down_from_end_to_end(self):
        for lead in (2, 3, 10 ** 30):
            scores = [entry * (lead - 1) for entry in range(28)]
            board = CountingBoard(lead, scores)
            self.assertEqual(board.order, list(range(28)))
            self.assertEqual(scores[board.order[-1]] - scores[board.order[0]], 27 * (lead - 1))
            self.assertEqual(settled_rank(lead, scores, board.order), 0)


class UpsideDown(unittest.TestCase):
    """All signs turned and the order reversed: all answers that know neither top nor bottom are turned."""

    def turned(self, scores):
        return [-score for score in scores]

    def test_orders_walks_chains_and_leads(self):
        for lead, scores, order in drawn_rankings(285, 150, 1, 10):
            down, back, last = self.turned(scores), order[::-1], len(scores) - 2
            self.assertEqual(settled_order(lead, down, back), settled_order(lead, scores, order)[::-1])
            self.assertEqual(wrong_places(lead, down, back),
                             sorted(last - place for place in wrong_places(lead, scores, order)))
            self.assertEqual(turned_pairs(lead, down, back),
                             sorted((lower, upper) for upper, lower in turned_pairs(lead, scores, order)))
            self.assertEqual(count_exchanges(lead, down, back), count_exchanges(lead, scores, order))
            self.assertEqual(least_lead(down, back), least_lead(scores, order))
            self.assertEqual(orders_by_lead(down, back),
                             [(lead, left[::-1]) for lead, left in orders_by_lead(scores, order)])
            self.assertEqual(groups_of(lead, down), groups_of(lead, scores)[::-1])
            for entry, other in itertools.permutations(range(len(scores)), 2):
                self.assertEqual(is_above(lead, down, back, entry, other), is_above(lead, scores, order, other, entry))
                self.assertEqual(other in holders_of(lead, down, back, entry),
                                 entry in holders_of(lead, scores, order, other))
                self.assertIs(is_chain(lead, down, back, [entry, other]),
                              is_chain(lead, scores, order, [other, entry]))

    def test_counts(self):
        for lead, scores, _ in drawn_rankings(286, 60, 1, 28):
            self.assertEqual(count_settled(lead, self.turned(scores)), count_settled(lead, scores))
        for lead, scores in kinds_of_rankings(3):
            down, many = self.turned(scores), count_settled(lead, scores)
            every = [nth_settled(lead, scores, index) for index in range(many)]
            turned = [nth_settled(lead, down, index) for index in range(many)]
            self.assertEqual(sorted(order[::-1] for order in turned), every)

    def test_boards(self):
        draw = random.Random(287)
        for lead, scores, _ in drawn_rankings(288, 60, 1, 10):
            many = len(scores)
            # Turned upside down the entries stand the other way round at first, so they are numbered so, too.
            board, down = CountingBoard(lead, scores), CountingBoard(lead, self.turned(scores)[::-1])
            for _ in range(6):
                self.assertEqual([many - 1 - entry for entry in down.order[::-1]], board.order)
                entry, score = draw.randrange(many), draw.randint(-20, 20)
                place = board.set_score(entry, score)
                self.assertEqual(down.set_score(many - 1 - entry, -score), many - 1 - place)
                self.assertEqual(down.exchanges, board.exchanges)

    def test_hidden_boards(self):
        draw = random.Random(289)
        for lead, scores, order in drawn_rankings(290, 30, 2, 8):
            hidden, down = HiddenBoard(lead, scores, order), HiddenBoard(lead, self.turned(scores), order[::-1])
            for count in (0, 1, 7):
                changes = [(draw.randrange(len(scores)), draw.randint(-20, 20)) for _ in range(count)]
                self.assertEqual(down.ask([(entry, -points) for entry, points in changes]), hidden.ask(changes)[::-1])
            self.assertEqual(find(down), (lead, [scores[0] - score for score in scores]))


class Renumbered(unittest.TestCase):
    """With the entries renumbered all answers are renumbered."""

    def cases(self, seed, count, most):
        """Rankings with the new numbers of their entries, and the scores and the order with these numbers."""
        draw = random.Random(seed)
        for lead, scores, order in drawn_rankings(seed + 1, count, 1, most):
            new = draw.sample(range(len(scores)), len(scores))
            other = [scores[new.index(entry)] for entry in range(len(scores))]
            yield lead, scores, order, new, other, [new[entry] for entry in order]

    def test_orders_walks_chains_and_leads(self):
        for lead, scores, order, new, others, turned in self.cases(301, 120, 9):
            self.assertEqual(settled_order(lead, others, turned),
                             [new[at] for at in settled_order(lead, scores, order)])
            self.assertEqual(wrong_places(lead, others, turned), wrong_places(lead, scores, order))
            self.assertEqual(turned_pairs(lead, others, turned),
                             sorted((new[upper], new[lower]) for upper, lower in turned_pairs(lead, scores, order)))
            self.assertEqual([is_walk(lead, others, turned, [place]) for place in range(len(order))],
                             [is_walk(lead, scores, order, [place]) for place in range(len(order))])
            self.assertEqual(least_lead(others, turned), least_lead(scores, order))
            self.assertEqual(orders_by_lead(others, turned),
                             [(lead, [new[at] for at in left]) for lead, left in orders_by_lead(scores, order)])
            self.assertEqual(groups_of(lead, others),
                             [sorted(new[entry] for entry in group) for group in groups_of(lead, scores)])
            for entry, other in itertools.product(range(len(scores)), repeat=2):
                self.assertIs(is_close(lead, others, new[entry], new[other]), is_close(lead, scores, entry, other))
                self.assertIs(is_above(lead, others, turned, new[entry], new[other]),
                              is_above(lead, scores, order, entry, other))
                self.assertEqual(place_span(lead, others, new[entry]), place_span(lead, scores, entry))

    def test_counts(self):
        for lead, scores, _, new, others, _ in self.cases(303, 60, 28):
            self.assertEqual(count_settled(lead, others), count_settled(lead, scores))
            for entry in range(len(scores)):
                self.assertEqual(count_with_top(lead, others, new[entry]), count_with_top(lead, scores, entry))
        for lead, scores, _, new, others, _ in self.cases(305, 30, 5):
            many = count_settled(lead, scores)
            every = [[new[at] for at in nth_settled(lead, scores, index)] for index in range(many)]
            self.assertEqual([nth_settled(lead, others, index) for index in range(many)], sorted(every))
            self.assertEqual([settled_rank(lead, others, order) for order in sorted(every)], list(range(many)))

    def test_lifts(self):
        draw = random.Random(306)
        for lead, scores, order, new, others, turned in self.cases(307, 100, 8):
            left, other = settled_order(lead, scores, order), settled_order(lead, others, turned)
            lifts = [draw.randrange(len(scores)) for _ in range(6)]
            renamed = [new[entry] for entry in lifts]
            goal = after_lifts(lead, scores, left, lifts)
            self.assertEqual(after_lifts(lead, others, other, renamed), [new[entry] for entry in goal])
            self.assertEqual(must_lift(lead, others, other, [new[entry] for entry in goal]),
                             sorted(new[entry] for entry in must_lift(lead, scores, left, goal)))
            short = [new[entry] for entry in short_lifts(lead, scores, lifts)]
            self.assertEqual(len(short_lifts(lead, others, renamed)), len(short))
            self.assertTrue(same_lifts(lead, others, renamed, short))

    def test_hidden_boards(self):
        draw = random.Random(309)
        for lead, scores, order, new, others, turned in self.cases(310, 30, 6):
            hidden, renamed = HiddenBoard(lead, scores, order), HiddenBoard(lead, others, turned)
            changes = [(draw.randrange(len(scores)), draw.randint(-20, 20)) for _ in range(8)]
            self.assertEqual(renamed.ask([(new[entry], points) for entry, points in changes]),
                             [new[entry] for entry in hidden.ask(changes)])
            self.assertEqual(find(renamed)[1], [score - others[0] for score in others])


class GroupsByThemselves(unittest.TestCase):

    def parts(self, lead, scores, order):
        """For each group its entries, their scores, and the order of these, numbered by the entries of the group."""
        for group in groups_of(lead, scores):
            yield group, [scores[entry] for entry in group], [group.index(at) for at in order if at in group]

    def test_orders_and_exchanges(self):
        for lead, scores, order in drawn_rankings(313, 150, 1, 28):
            left, exchanges = [], 0
            for group, some, part in self.parts(lead, scores, order):
                left += [group[at] for at in settled_order(lead, some, part)]
                exchanges += count_exchanges(lead, some, part)
            self.assertEqual(settled_order(lead, scores, order), left)
            groups = groups_of(lead, scores)
            number = {entry: at for at, group in enumerate(groups) for entry in group}
            across = sum(number[upper] > number[lower] for upper, lower in itertools.combinations(order, 2))
            self.assertEqual(count_exchanges(lead, scores, order), exchanges + across)

    def test_counts(self):
        for lead, scores, order in drawn_rankings(314, 150, 1, 28):
            parts = list(self.parts(lead, scores, order))
            counts = [count_settled(lead, some) for _, some, _ in parts]
            self.assertEqual(count_settled(lead, scores), math.prod(counts))
            for at, (group, some, _) in enumerate(parts):
                for entry in group:
                    tops = count_with_top(lead, some, group.index(entry)) * math.prod(counts[1:]) if at == 0 else 0
                    self.assertEqual(count_with_top(lead, scores, entry), tops)

    def test_ranks(self):
        # List order goes by the first group at first, so the index is put together from those of the groups.
        for lead, scores, order in drawn_rankings(315, 60, 1, 28):
            rank = 0
            for _, some, part in self.parts(lead, scores, order):
                rank = rank * count_settled(lead, some) + settled_rank(lead, some, settled_order(lead, some, part))
            self.assertEqual(settled_rank(lead, scores, settled_order(lead, scores, order)), rank)

    def test_lifts(self):
        draw = random.Random(316)
        for lead, scores, order in drawn_rankings(317, 80, 1, 12):
            start = settled_order(lead, scores, order)
            lifts = [draw.randrange(len(scores)) for _ in range(8)]
            goal, told = after_lifts(lead, scores, start, lifts), []
            for group, some, part in self.parts(lead, scores, start):
                own = [group.index(entry) for entry in lifts if entry in group]
                told += [group[at] for at in after_lifts(lead, some, part, own)]
            self.assertEqual(goal, told)
            must = [[group[at] for at in must_lift(lead, some, part, [group.index(at) for at in goal if at in group])]
                    for group, some, part in self.parts(lead, scores, start)]
            self.assertEqual(must_lift(lead, scores, start, goal), sorted(itertools.chain.from_iterable(must)))


if __name__ == "__main__":
    unittest.main()
