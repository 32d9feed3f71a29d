"""stack, closed, ended, worth and first: what is told of the markers."""

import unittest

from tests.helper import DOWN, FAR, LEFT, NO_COMPANIES, RIGHT, UP, ask, begin, cell, closed, ended, first, last, load
from tests.helper import moves, order, pay, place, sell, size, soldout, stack, undo, worth

STEPS = load("50b 60b 70b 80b\n40b 50b 60b\n30b 40b\n20b\n")
STEPS_ROWS = (4, 3, 2, 1)
# Two cells close, one of them ends too; one may be begun in and ends.
CLOSING = load("50c 60b 70e 80\n40b 50be 60\n30ce 40b\n")
MOST = 1000000


class TestStack(unittest.TestCase):
    def test_a_cell_without_markers(self):
        self.assertEqual(last(stack(0, 0)), [0])
        begun = (STEPS, begin(1, 0, 0))
        for row in range(4):
            for column in range(STEPS_ROWS[row]):
                self.assertEqual(last(*begun, stack(row, column)), [1, 1] if (row, column) == (0, 0) else [0])

    def test_the_uppermost_first(self):
        companies = (5, 3, 8, 1, 2, 7, 4, 6)
        self.assertEqual(last(*[begin(company, 0, 0) for company in companies], stack(0, 0)), [8] + list(companies))

    def test_behind_moves_of_some(self):
        begun = (STEPS, begin(4, 1, 1), begin(2, 1, 1), begin(7, 1, 1), begin(1, 0, 1), begin(3, 2, 1))
        answered = ask(*begun, sell(1, 1), stack(1, 1), soldout(3), stack(1, 1), moves(4, RIGHT), stack(1, 1),
                       moves(4, LEFT), stack(1, 1), stack(0, 1), stack(2, 1), stack(1, 2))
        self.assertEqual([answered[k] for k in (7, 9, 11, 13)],
                         [[4, 4, 2, 7, 1], [5, 4, 2, 7, 1, 3], [4, 2, 7, 1, 3], [5, 2, 7, 1, 3, 4]])
        self.assertEqual(answered[14:], [[0], [0], [0]])

    def test_the_middle_one_leaves(self):
        begun = (STEPS, begin(4, 1, 0), begin(2, 1, 0), begin(7, 1, 0), begin(1, 2, 0))
        self.assertEqual(ask(*begun, sell(2, 1), stack(1, 0), stack(2, 0))[5:], [[30], [2, 4, 7], [2, 1, 2]])

    def test_who_comes_back_within_one_call_keeps_its_place(self):
        begun = (STEPS, begin(4, 1, 1), begin(2, 1, 1), begin(7, 1, 1), begin(1, 0, 1))
        for row in ((), (UP, DOWN), (LEFT, RIGHT), (RIGHT, LEFT), (DOWN, UP), (UP, LEFT, DOWN, RIGHT)):
            answered = ask(*begun, moves(4, *row), moves(2, *row), stack(1, 1), stack(0, 1))
            self.assertEqual(answered[7:], [[3, 4, 2, 7], [1, 1]])

    def test_who_passes_through_changes_nothing_there(self):
        begun = (STEPS, begin(5, 3, 0), begin(2, 2, 0), begin(7, 2, 0), begin(1, 1, 0))
        self.assertEqual(ask(*begun, moves(5, UP, UP), stack(2, 0), stack(1, 0))[6:], [[2, 2, 7], [2, 1, 5]])

    def test_a_stack_that_moves_up_together(self):
        begun = (STEPS, begin(6, 1, 0), begin(4, 2, 0), begin(2, 2, 0), begin(7, 2, 0))
        self.assertEqual(ask(*begun, soldout(2, 7, 4), stack(1, 0), stack(2, 0))[6:], [[4, 6, 4, 2, 7], [0]])

    def test_a_closing_cell_holds_nobody(self):
        answered = ask(CLOSING, begin(1, 1, 0), begin(2, 1, 0), sell(1, 1), stack(2, 0), stack(1, 0))
        self.assertEqual(answered[4:], [[0], [1, 2]])

    def test_load_takes_them_away(self):
        self.assertEqual(last(begin(1, 0, 0), begin(2, 0, 0), STEPS, stack(0, 0)), [0])
        self.assertEqual(last(begin(1, 0, 0), begin(2, 0, 0), load("x"), stack(0, 0)), [2, 1, 2])

    def test_no_such_cell(self):
        wrong = ((-1, 0), (0, -1), (4, 0), (0, 4), (1, 3), (2, 2), (3, 1), (-4, -4))
        for row, column in wrong + ((FAR, 0), (0, FAR), (-FAR, 0), (0, -FAR), (FAR, FAR), (-FAR, -FAR)):
            self.assertEqual(ask(STEPS, begin(1, 0, 0), stack(row, column), order())[2:], [[-1], [1, 1]])

    def test_asking_changes_nothing(self):
        answered = ask(begin(2, 0, 0), begin(1, 0, 0), stack(0, 0), stack(0, 0), size())
        self.assertEqual(answered[2:], [[2, 2, 1], [2, 2, 1], [1, 1, 1, 2, 2]])


class TestClosed(unittest.TestCase):
    def test_none(self):
        self.assertEqual(last(closed()), [0])
        self.assertEqual(last(CLOSING, begin(1, 1, 0), moves(1, RIGHT), closed()), [0])

    def test_in_another_order_than_their_numbers(self):
        begun = (CLOSING, begin(1, 1, 0), begin(2, 0, 1), begin(3, 1, 0), begin(4, 1, 1))
        answered = ask(*begun, sell(3, 1), closed(), pay(2, 0), closed(), soldout(1), closed(), order())
        self.assertEqual(answered[5:], [[0], [1, 3], [0], [2, 3, 2], [1], [3, 3, 2, 1], [1, 4]])

    def test_all_eight(self):
        companies = (8, 1, 7, 2, 6, 3, 5, 4)
        begun = [begin(company, 1, 0) for company in range(1, 9)]
        sold = [sell(company, 1) for company in companies]
        self.assertEqual(ask(CLOSING, *begun, *sold, closed(), order(), size())[17:],
                         [[8] + list(companies), [0], [3, 4, 9, 0, 16]])

    def test_by_one_soldout_in_the_order_in_which_they_acted(self):
        begun = (load("70c 80c 90c\n40b 50b 60b\n"), begin(5, 1, 1), begin(1, 1, 0), begin(3, 1, 2), begin(2, 1, 1))
        self.assertEqual(ask(*begun, soldout(1, 2, 3, 5), closed())[5:], [[4], [4, 3, 5, 2, 1]])

    def test_a_closing_cell_in_the_middle_of_a_row_of_moves(self):
        answered = ask(CLOSING, begin(1, 1, 0), moves(1, UP, RIGHT, RIGHT), closed(), place(1))
        self.assertEqual(answered[2:], [[0], [1, 1], [-1]])

    def test_a_refused_begin_leaves_it_closed(self):
        answered = ask(CLOSING, begin(1, 1, 0), sell(1, 1), begin(1, 1, 0), closed())
        self.assertEqual(answered[3:], [[-3], [1, 1]])

    def test_until_load(self):
        begun = (CLOSING, begin(1, 1, 0), sell(1, 1))
        self.assertEqual(last(*begun, load("x"), closed()), [1, 1])
        self.assertEqual(last(*begun, CLOSING, closed()), [0])

    def test_what_is_given_back_is_a_copy(self):
        answered = ask(CLOSING, begin(1, 1, 0), begin(2, 1, 0), sell(2, 1), closed(), closed(), sell(1, 1), closed())
        self.assertEqual(answered[4:], [[1, 2], [1, 2], [0], [2, 2, 1]])


class TestEnded(unittest.TestCase):
    def check(self, answer, *calls):
        self.assertEqual(last(CLOSING, *calls, ended()), [answer])

    def test_not_at_the_beginning(self):
        self.assertEqual(last(ended()), [0])
        self.check(0)

    def test_come_to(self):
        self.check(1, begin(1, 0, 1), pay(1, 1))
        self.check(1, begin(1, 1, 0), pay(1, 1))
        self.check(1, begin(1, 2, 1), soldout(1))
        self.check(1, begin(1, 1, 0), moves(1, RIGHT, UP, RIGHT))
        self.check(1, begin(1, 0, 1), sell(1, 1))

    def test_come_to_and_closed_there(self):
        self.check(1, begin(1, 1, 0), sell(1, 1))
        self.check(1, begin(1, 2, 1), pay(1, 0))

    def test_closed_without_the_letter_e(self):
        self.check(0, begin(1, 1, 0), soldout(1))

    def test_begun_in_stayed_in_or_come_back_to(self):
        self.check(0, begin(1, 1, 1))
        self.check(0, begin(1, 1, 1), moves(1), moves(1, UP, DOWN), moves(1, RIGHT, LEFT))
        self.check(0, load("80be\n"), begin(1, 0, 0), sell(1, 1), pay(1, 0), pay(1, 80), soldout(1), moves(1, UP))

    def test_only_passed_through(self):
        self.check(0, begin(1, 0, 1), moves(1, RIGHT, RIGHT))
        self.check(0, begin(1, 0, 1), pay(1, 60))
        self.check(0, begin(1, 0, 1), sell(1, 2))

    def test_left(self):
        self.check(0, begin(1, 1, 1), pay(1, 1))
        self.check(0, begin(1, 1, 1), soldout(1))

    def test_by_one_of_several(self):
        begun = (begin(1, 1, 0), begin(2, 2, 1), begin(3, 1, 1))
        self.check(1, *begun, soldout(1, 2, 3))
        self.check(0, *begun, soldout(1, 3))

    def test_it_stays_so(self):
        begun = (begin(1, 0, 1), begin(2, 0, 1), pay(1, 1))
        self.check(1, *begun, pay(1, 1), moves(2, DOWN, DOWN), begin(3, 1, 0), soldout())
        self.check(1, *begun, load("x"))
        self.check(0, *begun, CLOSING)

    def test_a_refused_call_ends_nothing(self):
        self.check(0, begin(1, 0, 1), pay(1, -1), moves(1, RIGHT, 5), moves(1, RIGHT, *[UP] * 60), begin(1, 1, 1))

    def test_all_calls_go_on_as_before(self):
        answered = ask(CLOSING, begin(1, 0, 1), pay(1, 1), begin(2, 1, 0), pay(2, 1), soldout(2), sell(1, 1), undo(),
                       order())
        self.assertEqual(answered[2:], [[70], [40], [50], [1], [60], [5], [2, 1, 2]])


class TestWorth(unittest.TestCase):
    def test_without_markers(self):
        self.assertEqual(last(worth(1, 2, 3, 4, 5, 6, 7, 8)), [0])
        self.assertEqual(last(worth(*[MOST] * 8)), [0])

    def test_one_marker(self):
        for company in range(1, 9):
            numbers = [1000 + k for k in range(1, 9)]
            self.assertEqual(last(begin(company, 0, 0), worth(*numbers)), [100 * (1000 + company)])

    def test_several_markers(self):
        begun = (STEPS, begin(8, 0, 3), begin(1, 3, 0), begin(3, 1, 1), begin(4, 1, 1))
        self.assertEqual(last(*begun, worth(1, 10, 100, 1000, 10, 10, 10, 10000)), [20 + 5000 + 50000 + 800000])
        self.assertEqual(last(*begun, worth(0, 5, 0, 0, 5, 5, 5, 0)), [0])

    def test_the_price_is_that_of_the_cell_now(self):
        asked = worth(7, 3, 7, 7, 7, 7, 7, 7)
        answered = ask(STEPS, begin(2, 0, 0), sell(2, 1), asked, undo(), asked)
        self.assertEqual([answered[3], answered[5]], [[120], [150]])

    def test_a_closed_company_has_none(self):
        begun = (CLOSING, begin(1, 1, 0), begin(2, 1, 0), sell(1, 1))
        self.assertEqual(last(*begun, worth(9, 2, 9, 9, 9, 9, 9, 9)), [80])

    def test_the_greatest_worth(self):
        begun = [begin(company, 0, 0) for company in range(1, 9)]
        self.assertEqual(last(load("10000b\n"), *begun, worth(*[MOST] * 8)), [8 * 10000 * MOST])

    def test_seven_eight_and_nine_numbers(self):
        for count in (0, 1, 7, 9, 16, 70):
            self.assertEqual(last(begin(1, 0, 0), worth(*[1] * count)), [-2])
        self.assertEqual(last(begin(1, 0, 0), worth(*[1] * 8)), [100])

    def test_range(self):
        for company in range(1, 9):
            for number, answer in ((0, 0), (1, 100), (MOST, 100 * MOST), (MOST - 1, 100 * (MOST - 1)), (-1, -2),
                                   (MOST + 1, -2), (FAR, -2), (-FAR, -2)):
                numbers = [0] * 8
                numbers[company - 1] = number
                self.assertEqual(last(begin(company, 0, 0), worth(*numbers)), [answer])

    def test_a_number_out_of_range_of_a_company_without_a_marker(self):
        for number in (-1, MOST + 1, FAR, -FAR):
            self.assertEqual(last(begin(1, 0, 0), worth(1, 1, 1, 1, 1, 1, 1, number)), [-2])
            self.assertEqual(last(worth(number, 1, 1, 1, 1, 1, 1, 1)), [-2])

    def test_more_than_one_reason_for_one_refusal(self):
        self.assertEqual(last(worth(*[FAR] * 70)), [-2])
        self.assertEqual(last(worth(-1, -1)), [-2])

    def test_asking_changes_nothing(self):
        answered = ask(begin(1, 0, 0), worth(*[1] * 8), worth(*[1] * 8), worth(1), order(), size())
        self.assertEqual(answered[1:], [[100], [100], [-2], [1, 1], [1, 1, 1, 1, 1]])


class TestFirst(unittest.TestCase):
    def check(self, begun, one, two):
        # One acts before two, and so two does not act before one.
        self.assertEqual(ask(*begun, first(one, two), first(two, one))[-2:], [[1], [0]])

    def test_the_greater_price(self):
        begun = (STEPS, begin(1, 3, 0), begin(2, 0, 3), begin(3, 1, 0))
        self.check(begun, 2, 1)
        self.check(begun, 2, 3)
        self.check(begun, 3, 1)

    def test_the_price_goes_ahead_of_column_and_row(self):
        self.check((load("90b 95b\n10b 20b\n"), begin(1, 1, 1), begin(2, 0, 0)), 2, 1)
        self.check((load("10b 50b\n10b 40b\n10b 30b\n"), begin(1, 2, 1), begin(2, 0, 0)), 1, 2)

    def test_of_one_price_the_greater_column(self):
        for one, two in ((1, 2), (2, 1)):
            self.check((STEPS, begin(one, 1, 1), begin(two, 0, 0)), one, two)
            self.check((STEPS, begin(two, 0, 0), begin(one, 1, 1)), one, two)
            self.check((STEPS, begin(two, 0, 1), begin(one, 1, 2)), one, two)

    def test_of_one_price_and_column_the_lesser_row(self):
        for one, two in ((1, 2), (2, 1)):
            self.check((load("50b\n50b\n50b\n"), begin(two, 2, 0), begin(one, 1, 0)), one, two)
            self.check((load("50b\n50b\n50b\n"), begin(two, 1, 0), begin(one, 0, 0)), one, two)

    def test_within_one_stack(self):
        begun = (STEPS, begin(5, 1, 1), begin(2, 1, 1), begin(7, 1, 1))
        self.check(begun, 5, 2)
        self.check(begun, 2, 7)
        self.check(begun, 5, 7)
        self.check(begun + (moves(5, UP), moves(5, DOWN)), 7, 5)
        self.check(begun + (moves(5, UP, DOWN),), 5, 7)
        self.check(begun + (moves(5, UP), moves(5, DOWN), undo(), undo()), 5, 7)

    def test_one_company_twice(self):
        begun = (STEPS, begin(5, 1, 1), begin(2, 1, 1))
        self.assertEqual(ask(*begun, first(5, 5), first(2, 2))[3:], [[0], [0]])

    def test_no_marker(self):
        begun = (CLOSING, begin(1, 1, 0), begin(3, 1, 0), sell(3, 1))
        for company in NO_COMPANIES + (2, 3, 8):
            answered = ask(*begun, first(1, company), first(company, 1), first(company, company), order())
            self.assertEqual(answered[4:], [[-1], [-1], [-1], [1, 1]])

    def test_as_order_tells(self):
        begun = (STEPS, begin(6, 0, 0), begin(5, 1, 1), begin(2, 1, 1), begin(7, 1, 0), begin(1, 2, 1), begin(8, 0, 0))
        acting = last(*begun, order())[1:]
        self.assertEqual(acting, [5, 2, 6, 8, 1, 7])
        for one in acting:
            for two in acting:
                before = acting.index(one) < acting.index(two)
                self.assertEqual(last(*begun, first(one, two)), [1 if before else 0])

    def test_asking_changes_nothing(self):
        answered = ask(begin(2, 0, 0), begin(1, 0, 0), first(1, 2), first(1, 2), order(), size(), cell(0, 0))
        self.assertEqual(answered[2:], [[0], [0], [2, 2, 1], [1, 1, 1, 2, 2], [100, 1, 98]])


if __name__ == "__main__":
    unittest.main()
