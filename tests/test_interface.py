"""answers(calls): how calls and answers are laid into lists, and that nothing is changed, kept or printed."""

import contextlib
import io
import unittest

from priceboard.board import answers
from tests.helper import FAR, begin, cell, load, moves, order, pay, place, price, print_board, sell, soldout

TEXT = "# small\n50 60b\n40b\n"
SIGNS = list(TEXT.encode("ascii"))
PRINTED = list(b"50 60b\n40b\n")
EVERY_CALL = (
    load(TEXT) + print_board() + cell(0, 1) + begin(4, 1, 0) + begin(2, 1, 0) + sell(4, 10) + pay(4, 0)
    + soldout(2, 4) + moves(4, 2, 2, 4) + price(4) + place(2) + order()
)
EVERY_ANSWER = (
    [1, 2] + [12, 11] + PRINTED + [3, 60, 1, 98] + [1, 40] + [1, 40] + [1, 40] + [1, 40]
    + [1, 2] + [1, 50] + [1, 50] + [3, 0, 0, 1] + [3, 2, 4, 2]
)


class ReadOnly(list):
    def refuse(self, *given, **named):
        raise RuntimeError("what is handed in was changed")

    append = extend = insert = pop = remove = clear = sort = reverse = refuse
    __setitem__ = __delitem__ = __iadd__ = __imul__ = refuse


class TestInterface(unittest.TestCase):
    def test_how_calls_are_laid(self):
        self.assertEqual(EVERY_CALL, [0, len(SIGNS)] + SIGNS + [1] + [2, 0, 1] + [3, 4, 1, 0] + [3, 2, 1, 0]
                         + [4, 4, 10] + [5, 4, 0] + [6, 2, 2, 4] + [7, 4, 3, 2, 2, 4] + [8, 4] + [9, 2] + [10])

    def test_how_answers_are_laid(self):
        self.assertEqual(answers(EVERY_CALL), EVERY_ANSWER)

    def test_each_call_alone(self):
        # On the board of the beginning, one cell with price 100 and the letter b.
        for call, answered in (
            (load("1 2\n1\n"), [1, 2]), (load(""), [1, -101]), (load(" " * 5000), [1, -2]),
            (print_board(), [6, 5, 49, 48, 48, 98, 10]), (cell(0, 0), [3, 100, 1, 98]), (cell(1, 0), [1, -1]),
            (begin(1, 0, 0), [1, 100]), (sell(1, 1), [1, -1]), (pay(1, 1), [1, -1]), (soldout(), [1, 0]),
            (soldout(1), [1, -1]), (moves(1), [1, -1]), (price(1), [1, -1]), (place(1), [1, -1]), (order(), [1, 0]),
        ):
            self.assertEqual(answers(call), answered)

    def test_a_refusal_is_its_number_alone_and_the_next_call_is_read(self):
        refused = (
            load("x\n") + cell(FAR, -FAR) + begin(-FAR, FAR, FAR) + sell(FAR, FAR) + pay(-FAR, -FAR)
            + soldout(*[FAR] * 70) + moves(FAR, *[-FAR] * 70) + price(FAR) + place(-FAR)
        )
        self.assertEqual(answers(refused + order()), [1, -101] + [1, -1] * 8 + [1, 0])

    def test_whole_numbers_and_lists(self):
        answered = answers(calls=EVERY_CALL)
        self.assertIs(type(answered), list)
        self.assertEqual({type(number) for number in answered}, {int})

    def test_what_is_handed_in_is_not_changed(self):
        calls = ReadOnly(EVERY_CALL)
        self.assertEqual(answers(calls), EVERY_ANSWER)
        self.assertEqual(calls, EVERY_CALL)

    def test_nothing_is_kept(self):
        self.assertEqual(answers(EVERY_CALL), answers(EVERY_CALL))
        self.assertEqual(answers(order()), [1, 0])
        self.assertEqual(answers(print_board()), [6, 5, 49, 48, 48, 98, 10])
        self.assertEqual(answers(begin(4, 0, 0)), [1, 100])

    def test_what_is_given_back_is_new_each_time(self):
        answers(EVERY_CALL).clear()
        self.assertEqual(answers(EVERY_CALL), EVERY_ANSWER)

    def test_nothing_is_printed(self):
        out = io.StringIO()
        err = io.StringIO()
        with contextlib.redirect_stdout(out), contextlib.redirect_stderr(err):
            answers(EVERY_CALL)
        self.assertEqual(out.getvalue() + err.getvalue(), "")

    def test_two_hundred_calls(self):
        calls = begin(1, 0, 0) + [number for k in range(199) for number in sell(1, 10)]
        self.assertEqual(answers(calls), [1, 100] * 200)

    def test_the_longest_list(self):
        text = load("10\n" * 12 + "#" + "." * 3963)
        refused = load("\n" * 4001)
        calls = text * 4 + order() * 195 + cell(0, 0)
        self.assertLessEqual(len(calls), 17000)
        self.assertEqual(answers(calls), [1, 12] * 4 + [1, 0] * 195 + [2, 10, 0])
        self.assertEqual(answers(refused * 4), [1, -2] * 4)


if __name__ == "__main__":
    unittest.main()
