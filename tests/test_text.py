"""[23]: rankings as words, there and back, and as tables."""

import random
import unittest

from leadboard.boards import Board
from leadboard.errors import InvalidFormatError
from leadboard.text import format_board, parse_board, table_of
from tests.rankings import HUGE, O, S, all_wrong, drawn_rankings

MOST = 10 ** 31 - 1  # the greatest integer of 31 digits
WORDS_28 = " ".join(f"{entry}:{entry * 7 - 90}" for entry in range(28))


def drawn_scores(draw, many):
    """Scores of all sizes, below 0, too."""
    return [draw.choice((0, 1, -1, 9, 10, MOST, -MOST, HUGE, draw.randrange(10 ** draw.randint(1, 31)),
                         -draw.randrange(10 ** draw.randint(1, 31)))) for _ in range(many)]


class ThereAndBack(unittest.TestCase):

    def test_drawn_boards(self):
        draw = random.Random(261)
        for turn in range(300):
            many = 1 + turn % 28
            scores, order = drawn_scores(draw, many), draw.sample(range(many), many)
            words = " ".join(f"{entry}:{scores[entry]}" for entry in order)
            self.assertEqual(format_board(scores, order), words)
            self.assertEqual(parse_board(words), (scores, order))

    def test_edges(self):
        for words, scores, order in (("0:0", [0], [0]), ("0:-1", [-1], [0]), ("0:10", [10], [0]),
                                     ("1:0 0:0", [0, 0], [1, 0]), ("0:5 1:-5", [5, -5], [0, 1]),
                                     (f"0:{MOST}", [MOST], [0]), (f"0:-{MOST}", [-MOST], [0]),
                                     ("0:1000", [1000], [0]), ("0:-100", [-100], [0])):
            self.assertEqual(format_board(scores, order), words)
            self.assertEqual(parse_board(words), (scores, order))

    def test_28_entries(self):
        scores = [entry * 7 - 90 for entry in range(28)]
        self.assertEqual(format_board(scores, list(range(28))), WORDS_28)
        self.assertEqual(parse_board(WORDS_28), (scores, list(range(28))))
        backwards = " ".join(WORDS_28.split(" ")[::-1])
        self.assertEqual(parse_board(backwards), (scores, list(range(28))[::-1]))
        self.assertEqual(format_board(scores, list(range(28))[::-1]), backwards)

    def test_entries_behind_the_tenth_go_by_their_numbers(self):
        scores = list(range(100, 112))
        order = [10, 2, 11, 1, 0, 9, 3, 8, 4, 7, 5, 6]
        words = "10:110 2:102 11:111 1:101 0:100 9:109 3:103 8:108 4:104 7:107 5:105 6:106"
        self.assertEqual((format_board(scores, order), parse_board(words)), (words, (scores, order)))

    def test_scores_of_more_digits_are_only_written(self):
        board = Board(1, [MOST, -MOST])
        for _ in range(60):
            board.add_points(0, board.scores[0])
            board.add_points(1, board.scores[1])
        words = format_board(board.scores, board.order)
        self.assertEqual(words, f"0:{MOST * 2 ** 60} 1:-{MOST * 2 ** 60}")
        with self.assertRaises(InvalidFormatError):
            parse_board(words)

    def test_scores_of_very_many_digits(self):
        # Python itself does not write integers of more than 4300 digits.
        scores = [10 ** 5000, -10 ** 5000, 7 * 10 ** 4999 + 5, 10 ** 64, 10 ** 64 - 1, -10 ** 64, 10 ** 128 + 10 ** 63]
        words = ["1" + "0" * 5000, "-1" + "0" * 5000, "7" + "0" * 4998 + "5", "1" + "0" * 64, "9" * 64,
                 "-1" + "0" * 64, "1" + "0" * 64 + "1" + "0" * 63]
        expected = " ".join(f"{entry}:{word}" for entry, word in enumerate(words))
        self.assertEqual(format_board(scores, list(range(7))), expected)
        self.assertEqual(table_of(10 ** 5001, scores, list(range(7))),
                         [f" {entry}   {entry}{word}" for entry, word in enumerate(words)])

    def test_kinds_and_new_lists(self):
        self.assertIs(type(format_board(S, O)), str)
        told, other = parse_board("1:4 0:6"), parse_board(text="1:4 0:6")
        self.assertEqual((type(told), [type(part) for part in told]), (tuple, [list, list]))
        self.assertEqual({type(item) for part in told for item in part}, {int})
        told[0].clear()
        told[1].clear()
        self.assertEqual((other, parse_board("1:4 0:6")), (([6, 4], [1, 0]), ([6, 4], [1, 0])))

    def test_orders_need_not_be_settled(self):
        self.assertEqual(format_board([0, 99], [0, 1]), "0:0 1:99")
        self.assertEqual(parse_board("0:0 1:99"), ([0, 99], [0, 1]))


class WrongTexts(unittest.TestCase):

    def check(self, *texts):
        for text in texts:
            with self.assertRaises(InvalidFormatError, msg=repr(text)) as caught:
                parse_board(text)
            self.assertIs(type(caught.exception), InvalidFormatError)

    def test_entries_twice_or_missing_or_too_great(self):
        self.check("0:1 0:1", "0:1 0:2", "0:1 1:2 1:3", "1:5", "0:1 2:3", "1:1 2:2", "2:1 0:5", "0:1 1:2 3:4",
                   "28:1", "99:1", "10:1 0:1", f"{HUGE}:1", "9" * 31 + ":1", "9" * 5000 + ":1")

    def test_signs(self):
        self.check("0:+4", "0:-0", "0:--4", "0:-+4", "+0:4", "-0:4", "-1:4", "0:4-", "0:4+", "0:-", "0:+", "0:- 4",
                   "0:5 -1:4", "0:-00", "0:-04", "0:\u22124")

    def test_leading_zeros(self):
        self.check("0:04", "0:00", "0:007", "00:4", "01:4", "00:4 1:4", "0:4 01:5", "0:-07", "0:0" + "1" * 29)

    def test_underscores_points_and_other_signs(self):
        self.check("0:1_0", "0:_1", "0:1_", "0_:1", "0:1.0", "0:.5", "0:5.", "0.0:5", "0:1e3", "0:0x1", "0:1L", "0:1,0",
                   "0:a", "a:0", "0:4:5", "0:4:", ":0:4", "0::4", "0:", ":4", ":", "0", "4", "0 4", "0=4", "0;4",
                   "0.4", "0-4", "0:4,1:5", "0:4;1:5", "0:4\n", "\n0:4", "0:4\t", "0:4\n1:5", "0:4\t1:5", "0:4|1:5",
                   "(0:4)", "'0:4'", "0:\n4", "0:True", "0:None", "0: 4", "0 :4", "0\t:4", "0:4\r")

    def test_spaces(self):
        self.check("", " ", "  ", " 0:4", "0:4 ", "0:4  1:5", "  0:4", "0:4  ", "0:4 1:5 ", " 0:4 1:5", "0:4\u00a01:5",
                   "0:4 1:5  2:6", "0:4\u20031:5", "0:4\x0b1:5", "0:4\x1c1:5")

    def test_more_than_28_words(self):
        self.check(WORDS_28 + " 28:4", WORDS_28 + " 27:4", WORDS_28 + " 0:4", WORDS_28 + " ", WORDS_28 + " x",
                   " ".join(f"{entry}:0" for entry in range(29)), " ".join(f"{entry}:0" for entry in range(300)))

    def test_32_digits(self):
        self.check(f"0:{MOST + 1}", f"0:-{MOST + 1}", "0:" + "9" * 32, "0:-" + "9" * 32, "0:1 1:" + "1" * 32,
                   "0:" + "1" * 400, "0:" + "1" * 5000, "0:-" + "1" * 5000)
        self.assertEqual(parse_board("0:" + "9" * 31), ([MOST], [0]))
        self.assertEqual(parse_board("0:-" + "9" * 31), ([-MOST], [0]))

    def test_digits_of_other_scripts(self):
        self.check("0:\u0664", "\u0660:4", "0:\u00b2", "0:\uff14", "\uff10:4", "0:4\u0664", "0:\u0967", "0:1\u00bd",
                   "0\uff1a4", "0:\u2460", "0:\ud800")

    def test_no_strings(self):
        self.check(None, True, False, 0, 4, 1.5, b"0:4", bytearray(b"0:4"), ["0:4"], ("0:4",), [], (), {}, {0: 4},
                   {"0:4"}, [(0, 4)], ([4], [0]), object(), str, len)

    def test_one_sign_more_or_less_or_other(self):
        # Whatever is read is written just so again.
        right = "1:-60 0:4 2:108"
        texts = {right[:at] + sign + right[at + gone:] for at in range(len(right) + 1) for gone in (0, 1)
                 for sign in ["", *"0123456789:-+_ .x"]}
        read = 0
        for text in texts:
            try:
                scores, order = parse_board(text)
            except InvalidFormatError:
                continue
            read += 1
            self.assertEqual(" ".join(f"{entry}:{scores[entry]}" for entry in order), text)
            self.assertEqual(sorted(order), list(range(len(scores))))
        self.assertGreater(read, 60)


class TableOf(unittest.TestCase):

    def table(self, lead, scores, order):
        """The table, put together sign by sign."""
        rows = []
        for place, entry in enumerate(order):
            row = str(place).rjust(2) + str(entry).rjust(4) + str(scores[entry]).rjust(12)
            wrong = place > 0 and scores[entry] - scores[order[place - 1]] >= lead
            rows.append(row + " ^" if wrong else row)
        return rows

    def test_drawn_rankings(self):
        for lead, scores, order in drawn_rankings(262, 300, 1, 28):
            told = table_of(lead, scores, order)
            self.assertEqual(told, self.table(lead, scores, order))
            self.assertEqual([place - 1 for place, row in enumerate(told) if row.endswith(" ^")],
                             all_wrong(lead, scores, order))
            self.assertEqual({len(row.removesuffix(" ^")) for row in told}, {18})

    def test_scores_of_all_sizes(self):
        draw = random.Random(263)
        for turn in range(100):
            many = draw.randint(1, 28)
            scores, order = drawn_scores(draw, many), draw.sample(range(many), many)
            for lead in (1, 10, HUGE, MOST):
                self.assertEqual(table_of(lead, scores, order), self.table(lead, scores, order))

    def test_twelve_characters_and_more(self):
        self.assertEqual(table_of(1, [123456789012], [0]), [" 0   0123456789012"])
        self.assertEqual(table_of(1, [12345678901], [0]), [" 0   0 12345678901"])
        self.assertEqual(table_of(1, [-12345678901], [0]), [" 0   0-12345678901"])
        self.assertEqual(table_of(1, [1234567890123], [0]), [" 0   01234567890123"])
        self.assertEqual(table_of(1, [-123456789012], [0]), [" 0   0-123456789012"])
        self.assertEqual(table_of(1, [MOST, 0], [1, 0]), [" 0   1           0", " 1   0" + "9" * 31 + " ^"])

    def test_widths_of_two_digits(self):
        told = table_of(99, [5] * 28, list(range(28))[::-1])
        self.assertEqual(told[0], " 0  27           5")
        self.assertEqual(told[9], " 9  18           5")
        self.assertEqual(told[10], "10  17           5")
        self.assertEqual(told[27], "27   0           5")

    def test_marks(self):
        self.assertEqual([row[18:] for row in table_of(2, S, O)], ["", " ^", " ^", " ^"])
        self.assertEqual([row[18:] for row in table_of(3, S, O)], ["", "", "", ""])
        self.assertEqual([row[18:] for row in table_of(3, S, [1, 0, 2, 3])], ["", "", " ^", ""])
        self.assertEqual([row[18:] for row in table_of(6, S, [1, 2, 0, 3])], ["", "", "", " ^"])
        self.assertEqual(table_of(1, [7], [0]), [" 0   0           7"])

    def test_a_new_list_each_time(self):
        first, second = table_of(3, S, O), table_of(3, S, O)
        self.assertIsNot(first, second)
        self.assertEqual({type(row) for row in first}, {str})
        first.clear()
        self.assertEqual(table_of(3, S, O), second)


if __name__ == "__main__":
    unittest.main()
