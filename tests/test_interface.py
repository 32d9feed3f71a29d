"""answers(calls): how calls and answers are laid into lists, and that nothing is changed, kept or printed."""

import contextlib
import io
import unittest

from priceboard.board import answers
from tests.helper import FAR, begin, cell, closed, ended, first, load, moves, order, part, pay, place, price
from tests.helper import print_board, reach, same, sell, size, soldout, stack, steps, undo, worth

TEXT = "# small\n50 60b\n40b\n"
SIGNS = list(TEXT.encode("ascii"))
PRINTED = list(b"50 60b\n40b\n")
MOST = 1000000
EVERY_CALL = (
    load(TEXT) + print_board() + cell(0, 1) + begin(4, 1, 0) + begin(2, 1, 0) + sell(4, 10) + pay(4, 0)
    + soldout(2, 4) + moves(4, 2, 2, 4) + price(4) + place(2) + order()
    + stack(0, 0) + closed() + ended() + reach(0, 1, 4, 3) + same((1, 3), (4,)) + steps(1, 0, 0, 1) + undo()
    + worth(0, 3, 0, 2, 0, 0, 0, 0) + first(4, 2) + size()
)
EVERY_ANSWER = (
    [1, 2] + [12, 11] + PRINTED + [3, 60, 1, 98] + [1, 40] + [1, 40] + [1, 40] + [1, 40]
    + [1, 2] + [1, 50] + [1, 50] + [3, 0, 0, 1] + [3, 2, 4, 2]
    + [3, 2, 4, 2] + [1, 0] + [1, 0] + [2, 1, 0] + [1, 0] + [2, 1, 2] + [1, 5]
    + [1, 250] + [1, 1] + [5, 2, 2, 3, 2, 5]
)


class ReadOnly(list):
    def refuse(self, *given, **named):
        raise RuntimeError("what is handed in was changed")

    append = extend = insert = pop = remove = clear = sort = reverse = refuse
    __setitem__ = __delitem__ = __iadd__ = __imul__ = refuse


class TestInterface(unittest.TestCase):
    def test_how_calls_are_laid(self):
        self.assertEqual(EVERY_CALL, [0, len(SIGNS)] + SIGNS + [1] + [2, 0, 1] + [3, 4, 1, 0] + [3, 2, 1, 0]
                         + [4, 4, 10] + [5, 4, 0] + [6, 2, 2, 4] + [7, 4, 3, 2, 2, 4] + [8, 4] + [9, 2] + [10]
                         + [11, 0, 0] + [12] + [13] + [14, 0, 1, 2, 4, 3] + [15, 2, 1, 3, 1, 4] + [16, 1, 0, 0, 1]
                         + [17] + [18, 8, 0, 3, 0, 2, 0, 0, 0, 0] + [19, 4, 2] + [20])

    def test_how_answers_are_laid(self):
        self.assertEqual(answers(EVERY_CALL), EVERY_ANSWER)

    def test_each_call_alone(self):
        # On the board of the beginning, one cell with price 100 and the letter b.
        for call, answered in (
            (load("1 2\n1\n"), [1, 2]), (load(""), [1, -101]), (load(" " * 5000), [1, -2]),
            (print_board(), [6, 5, 49, 48, 48, 98, 10]), (cell(0, 0), [3, 100, 1, 98]), (cell(1, 0), [1, -1]),
            (begin(1, 0, 0), [1, 100]), (sell(1, 1), [1, -1]), (pay(1, 1), [1, -1]), (soldout(), [1, 0]),
            (soldout(1), [1, -1]), (moves(1), [1, -1]), (price(1), [1, -1]), (place(1), [1, -1]), (order(), [1, 0]),
            (stack(0, 0), [1, 0]), (stack(0, 1), [1, -1]), (closed(), [1, 0]), (ended(), [1, 0]),
            (reach(0, 0), [2, 0, 0]), (reach(1, 0), [1, -1]), (reach(0, 0, 5), [1, -2]), (same((), ()), [1, 1]),
            (same((), (0,)), [1, -2]), (steps(0, 0, 0, 0), [2, 1, 0]), (steps(0, 0, 1, 0), [1, -1]), (undo(), [1, -7]),
            (worth(*[9] * 8), [1, 0]), (worth(), [1, -2]), (first(1, 1), [1, -1]), (size(), [5, 1, 1, 1, 0, 0]),
        ):
            self.assertEqual(answers(call), answered)

    def test_a_refusal_is_its_number_alone_and_the_next_call_is_read(self):
        refused = (
            load("x\n") + cell(FAR, -FAR) + begin(-FAR, FAR, FAR) + sell(FAR, FAR) + pay(-FAR, -FAR)
            + soldout(*[FAR] * 70) + moves(FAR, *[-FAR] * 70) + price(FAR) + place(-FAR)
        )
        self.assertEqual(answers(refused + order()), [1, -101] + [1, -1] * 8 + [1, 0])
        refused = (
            stack(-FAR, FAR) + reach(FAR, FAR, *[FAR] * 70) + steps(FAR, -FAR, -FAR, FAR) + first(FAR, -FAR)
            + same([FAR] * 70, [-FAR] * 70) + worth(*[-FAR] * 70) + undo()
        )
        self.assertEqual(answers(refused + size()), [1, -1] * 4 + [1, -2] * 2 + [1, -7] + [5, 1, 1, 1, 0, 0])

    def test_no_way_is_0_alone(self):
        self.assertEqual(answers(load("10 20c 30\n") + steps(0, 0, 0, 2) + steps(0, 0, 0, 1) + steps(0, 1, 0, 1)),
                         [1, 1] + [1, 0] + [2, 1, 1] + [2, 1, 0])

    def test_whole_numbers_and_lists(self):
        answered = answers(calls=EVERY_CALL)
        self.assertIs(type(answered), list)
        self.assertEqual({type(number) for number in answered}, {int})

    def test_what_is_handed_in_is_not_changed(self):
        calls = ReadOnly(EVERY_CALL)
        self.assertEqual(answers(calls), EVERY_ANSWER)
        self.assertEqual(calls, EVERY_CALL)

    def test_nothing_is_kept(self):
        self.assertEqual(answers(EVERY_CALL), answers(EVERY_CALL))
        self.assertEqual(answers(order()), [1, 0])
        self.assertEqual(answers(print_board()), [6, 5, 49, 48, 48, 98, 10])
        self.assertEqual(answers(begin(4, 0, 0)), [1, 100])

    def test_what_is_given_back_is_new_each_time(self):
        answers(EVERY_CALL).clear()
        self.assertEqual(answers(EVERY_CALL), EVERY_ANSWER)

    def test_nothing_is_printed(self):
        out = io.StringIO()
        err = io.StringIO()
        with contextlib.redirect_stdout(out), contextlib.redirect_stderr(err):
            answers(EVERY_CALL)
        self.assertEqual(out.getvalue() + err.getvalue(), "")

    def test_two_hundred_calls(self):
        calls = begin(1, 0, 0) + [number for k in range(199) for number in sell(1, 10)]
        self.assertEqual(answers(calls), [1, 100] * 200)
        calls = begin(1, 0, 0) + sell(1, 1) * 99 + undo() * 100
        taken_back = [number for more in range(49, -1, -1) for number in (1, more)]
        self.assertEqual(answers(calls), [1, 100] * 100 + taken_back + [1, -7] * 50)

    def test_two_hundred_of_each_asking(self):
        for call in (print_board(), cell(0, 0), price(1), place(1), order(), stack(0, 0), closed(), ended(),
                     reach(0, 0, 1), same((1,), (2,)), steps(0, 0, 0, 0), undo(), worth(*[1] * 8), first(1, 2), size()):
            self.assertEqual(answers(call * 200), answers(call) * 200)

    def test_the_longest_list(self):
        rows = (" ".join([str(price) for price in range(1, 21)]) + "\n") * 12
        board = load(rows + "#" + "." * (3999 - len(rows)))
        calls = board * 3 + same([4] * 60, [4] * 59 + [2]) * 15 + same([2] * 60, [2] * 60) * 15
        calls += worth(*[MOST] * 8) * 125 + steps(11, 0, 0, 19) * 3 + size() * 39
        self.assertEqual(len(calls), 17000)
        answered = answers(calls)
        self.assertEqual(len(part(answered)), 200)
        self.assertEqual(answered, [1, 12] * 3 + [1, 0] * 15 + [1, 1] * 15 + [1, 0] * 125 + [2, 1, 30] * 3
                         + [5, 12, 20, 240, 0, 0] * 39)

    def test_the_longest_texts(self):
        refused = load("\n" * 5000)
        self.assertEqual(answers(refused * 3), [1, -2] * 3)
        text = load("10\n" * 12 + "#" + "." * 3963)
        self.assertEqual(answers(text * 4 + order() * 195 + cell(0, 0)), [1, 12] * 4 + [1, 0] * 195 + [2, 10, 0])

    def test_long_answers(self):
        row = " ".join([f"{price}bef" for price in range(9981, 10001)]) + "\n"
        printed = list((row * 12).encode("ascii"))
        answered = answers(load(row * 12) + print_board() * 199)
        self.assertEqual(answered, [1, 12] + ([1 + len(printed), len(printed)] + printed) * 199)


if __name__ == "__main__":
    unittest.main()
