"""begin, sell, pay, soldout, moves, price, place and order: the markers and their ways."""

import unittest

from tests.helper import DOWN, FAR, LEFT, NO_COMPANIES, RIGHT, UP, ask, begin, cell, closed, counted, last, load
from tests.helper import moves, order, pay, place, price, print_board, sell, soldout

# The rows get shorter, so that the lower right corner has steps.
STEPS = load("50b 60b 70b 80b\n40b 50b 60b\n30b 40b\n20b\n")
# Cells that close lie below, above, to the right and in between.
CLOSING = load("50c 60b 70c 80\n40b 50b 60\n30b 40b\n20ce 30\n")
CORNERS = ((0, 0), (0, 3), (3, 0))


class TestBegin(unittest.TestCase):
    def test_price_and_place(self):
        answered = ask(STEPS, begin(1, 0, 3), begin(8, 2, 1), place(1), place(8), price(1), price(8))
        self.assertEqual(answered, [[4], [80], [40], [0, 3, 0], [2, 1, 0], [80], [40]])

    def test_on_the_first_board(self):
        self.assertEqual(ask(begin(5, 0, 0), place(5), order()), [[100], [0, 0, 0], [1, 5]])

    def test_under_those_that_are_there(self):
        calls = [begin(company, 0, 0) for company in (5, 3, 8, 1, 2, 7, 4, 6)]
        answered = ask(*calls, place(5), place(3), place(8), place(6), order())
        self.assertEqual(answered[8:12], [[0, 0, 0], [0, 0, 1], [0, 0, 2], [0, 0, 7]])
        self.assertEqual(answered[12], [8, 5, 3, 8, 1, 2, 7, 4, 6])

    def test_no_such_company(self):
        for company in NO_COMPANIES:
            self.assertEqual(ask(begin(company, 0, 0), order()), [[-1], [0]])

    def test_no_such_cell(self):
        for row, column in ((-1, 0), (0, -1), (4, 0), (0, 4), (1, 3), (2, 2), (FAR, 0), (0, FAR), (-FAR, 0), (0, -FAR)):
            self.assertEqual(ask(STEPS, begin(1, row, column), order())[1:], [[-1], [0]])

    def test_companies_may_not_begin_there(self):
        board = load("10 20c 30e 40f 50ef 60b 70bef\n")
        for column in range(5):
            self.assertEqual(ask(board, begin(1, 0, column), order())[1:], [[-5], [0]])
        self.assertEqual(last(board, begin(1, 0, 5)), [60])
        self.assertEqual(last(board, begin(1, 0, 6)), [70])

    def test_has_a_marker_already(self):
        answered = ask(STEPS, begin(1, 0, 0), begin(1, 0, 0), begin(1, 1, 0), place(1), order())
        self.assertEqual(answered[2:], [[-4], [-4], [0, 0, 0], [1, 1]])

    def test_was_closed(self):
        answered = ask(CLOSING, begin(1, 1, 0), moves(1, UP), begin(1, 1, 0), order())
        self.assertEqual(answered[1:], [[40], [0], [-3], [0]])

    def test_the_refusal_nearest_to_0(self):
        closed = (CLOSING, begin(1, 1, 0), moves(1, UP), begin(2, 1, 0))
        self.assertEqual(last(*closed, begin(1, 9, 9)), [-1])
        self.assertEqual(last(*closed, begin(2, 9, 9)), [-1])
        self.assertEqual(last(*closed, begin(9, 0, 3)), [-1])
        self.assertEqual(last(*closed, begin(9, 9, 9)), [-1])
        self.assertEqual(last(*closed, begin(1, 0, 3)), [-3])
        self.assertEqual(last(*closed, begin(2, 0, 3)), [-4])
        self.assertEqual(last(*closed, begin(3, 0, 3)), [-5])


class TestSell(unittest.TestCase):
    def test_goes_down(self):
        for count, answer in ((1, 40), (2, 30), (3, 20)):
            answered = ask(STEPS, begin(1, 0, 0), sell(1, count), place(1), price(1))
            self.assertEqual(answered[2:], [[answer], [count, 0, 0], [answer]])

    def test_stays_where_nothing_is_below(self):
        self.assertEqual(ask(STEPS, begin(1, 0, 0), sell(1, 10), place(1))[2:], [[20], [3, 0, 0]])
        self.assertEqual(ask(STEPS, begin(1, 0, 3), sell(1, 1), place(1))[2:], [[80], [0, 3, 0]])
        self.assertEqual(ask(STEPS, begin(1, 1, 1), sell(1, 5), place(1))[2:], [[40], [2, 1, 0]])
        self.assertEqual(ask(begin(1, 0, 0), sell(1, 10), place(1)), [[100], [100], [0, 0, 0]])

    def test_one_to_ten(self):
        board = load("20b\n19\n18\n17\n16\n15\n14\n13\n12\n11\n10\n9\n")
        self.assertEqual(ask(board, begin(1, 0, 0), sell(1, 10), sell(1, 1))[2:], [[10], [9]])
        for count in (0, 11, -1, 12, -10, FAR, -FAR):
            self.assertEqual(ask(board, begin(1, 0, 0), sell(1, count), place(1))[2:], [[-2], [0, 0, 0]])

    def test_no_marker(self):
        for company in NO_COMPANIES + (2,):
            self.assertEqual(last(begin(1, 0, 0), sell(company, 1)), [-1])

    def test_the_refusal_nearest_to_0(self):
        for company in NO_COMPANIES + (2,):
            self.assertEqual(last(begin(1, 0, 0), sell(company, 0)), [-1])
            self.assertEqual(last(begin(1, 0, 0), sell(company, FAR)), [-1])

    def test_closed_by_it(self):
        board = load("50b\n40c\n30\n")
        answered = ask(board, begin(1, 0, 0), begin(2, 0, 0), sell(1, 2), price(1), place(1), order(), sell(1, 1))
        self.assertEqual(answered[3:], [[0], [-1], [-1], [1, 2], [-1]])
        self.assertEqual(last(board, begin(1, 0, 0), begin(2, 0, 0), sell(1, 2), place(2)), [0, 0, 0])

    def test_lies_under_those_that_are_there(self):
        answered = ask(STEPS, begin(1, 0, 0), begin(2, 1, 0), begin(3, 1, 0), sell(1, 1), place(1), place(3), order())
        self.assertEqual(answered[4:], [[40], [1, 0, 2], [1, 0, 1], [3, 2, 3, 1]])


class TestPay(unittest.TestCase):
    def test_nothing_moves_left(self):
        self.assertEqual(ask(STEPS, begin(1, 1, 2), pay(1, 0), place(1))[2:], [[50], [1, 1, 0]])

    def test_left_of_column_0_is_down(self):
        self.assertEqual(ask(STEPS, begin(1, 1, 0), pay(1, 0), place(1))[2:], [[30], [2, 0, 0]])
        self.assertEqual(ask(STEPS, begin(1, 3, 0), pay(1, 0), place(1))[2:], [[20], [3, 0, 0]])

    def test_less_than_the_price_moves_right(self):
        for payment in (1, 49):
            self.assertEqual(ask(STEPS, begin(1, 0, 0), pay(1, payment), place(1))[2:], [[60], [0, 1, 0]])

    def test_the_price_and_more_moves_twice_right(self):
        for payment in (50, 51, 1000000000):
            self.assertEqual(ask(STEPS, begin(1, 0, 0), pay(1, payment), place(1))[2:], [[70], [0, 2, 0]])

    def test_a_price_of_1(self):
        board = load("1b 2 3\n")
        self.assertEqual(last(board, begin(1, 0, 0), pay(1, 1)), [3])
        self.assertEqual(last(board, begin(1, 0, 0), pay(1, 0)), [1])

    def test_right_of_the_last_column_is_up(self):
        self.assertEqual(ask(STEPS, begin(1, 2, 1), pay(1, 1), place(1))[2:], [[50], [1, 1, 0]])
        self.assertEqual(ask(STEPS, begin(1, 2, 1), pay(1, 40), place(1))[2:], [[60], [1, 2, 0]])
        self.assertEqual(ask(STEPS, begin(1, 1, 2), pay(1, 60), place(1))[2:], [[80], [0, 3, 0]])
        self.assertEqual(ask(STEPS, begin(1, 0, 3), pay(1, 80), place(1))[2:], [[80], [0, 3, 0]])
        self.assertEqual(ask(STEPS, begin(1, 0, 2), pay(1, 70), place(1))[2:], [[80], [0, 3, 0]])

    def test_closed_by_it(self):
        self.assertEqual(ask(CLOSING, begin(1, 0, 1), pay(1, 1), order())[2:], [[0], [0]])
        self.assertEqual(ask(CLOSING, begin(1, 0, 1), pay(1, 60), order())[2:], [[0], [0]])
        left = load("10c 20b\n")
        self.assertEqual(ask(left, begin(1, 0, 1), pay(1, 0), order())[2:], [[0], [0]])

    def test_range(self):
        self.assertEqual(last(STEPS, begin(1, 0, 0), pay(1, 1000000000)), [70])
        for payment in (-1, 1000000001, FAR, -FAR):
            self.assertEqual(ask(STEPS, begin(1, 0, 0), pay(1, payment), place(1))[2:], [[-2], [0, 0, 0]])

    def test_no_marker(self):
        for company in NO_COMPANIES + (2,):
            for payment in (0, 1, -1, FAR, -FAR):
                self.assertEqual(last(begin(1, 0, 0), pay(company, payment)), [-1])


class TestSoldout(unittest.TestCase):
    def test_moves_up(self):
        begun = (STEPS, begin(1, 3, 0), begin(2, 1, 2), begin(3, 0, 1))
        answered = ask(*begun, soldout(1, 2, 3), place(1), place(2), place(3))
        self.assertEqual(answered[4:], [[3], [2, 0, 0], [0, 2, 0], [0, 1, 0]])

    def test_an_empty_list(self):
        answered = ask(STEPS, begin(1, 3, 0), soldout(), place(1))
        self.assertEqual(answered[2:], [[0], [3, 0, 0]])
        self.assertEqual(ask(soldout(), order()), [[0], [0]])

    def test_only_those_of_the_list(self):
        answered = ask(STEPS, begin(1, 2, 0), begin(2, 2, 0), begin(3, 2, 0), soldout(2), place(1), place(2), place(3))
        self.assertEqual(answered[4:], [[1], [2, 0, 0], [1, 0, 0], [2, 0, 1]])

    def test_a_stack_goes_up_in_its_order(self):
        begun = (STEPS, begin(4, 2, 0), begin(1, 2, 0), begin(3, 2, 0), begin(2, 1, 0))
        answered = ask(*begun, soldout(1, 3, 4), order())
        self.assertEqual(answered[5:], [[3], [4, 2, 4, 1, 3]])

    def test_the_order_is_that_before_the_call(self):
        # Company 2 is dearer and goes first: when 1 comes to its cell it is gone, and it comes under 3.
        begun = (STEPS, begin(1, 2, 0), begin(2, 1, 0), begin(3, 0, 0))
        answered = ask(*begun, soldout(1, 2), place(1), place(2), place(3), order())
        self.assertEqual(answered[4:], [[2], [1, 0, 0], [0, 0, 1], [0, 0, 0], [3, 3, 2, 1]])

    def test_the_order_of_equal_prices(self):
        # Both cells cost 40; the greater column acts first, and both come to cells of other markers.
        begun = (STEPS, begin(1, 1, 0), begin(2, 2, 1), begin(3, 0, 0), begin(4, 1, 1))
        answered = ask(*begun, soldout(1, 2), order())
        self.assertEqual(answered[5:], [[2], [4, 4, 2, 3, 1]])

    def test_closed_in_the_order_of_acting(self):
        begun = (load("70c 80c 90\n40b 50b 60b\n"), begin(1, 1, 0), begin(2, 1, 1), begin(3, 1, 2))
        answered = ask(*begun, soldout(1, 2, 3), closed(), order(), place(3))
        self.assertEqual(answered[4:], [[3], [2, 2, 1], [1, 3], [0, 2, 0]])

    def test_answers_how_many_though_some_are_closed(self):
        answered = ask(CLOSING, begin(1, 1, 0), begin(2, 1, 1), soldout(2, 1), order(), soldout(2, 1))
        self.assertEqual(answered[3:], [[2], [1, 2], [-1]])

    def test_no_marker(self):
        for company in NO_COMPANIES + (2,):
            answered = ask(STEPS, begin(1, 3, 0), soldout(1, company), soldout(company, 1), soldout(company), place(1))
            self.assertEqual(answered[2:], [[-1], [-1], [-1], [3, 0, 0]])

    def test_told_twice(self):
        begun = (STEPS, begin(1, 3, 0), begin(2, 3, 0))
        for companies in ((1, 1), (1, 2, 1), (2, 2, 1), (1, 2, 2), (1,) * 70):
            answered = ask(*begun, soldout(*companies), place(1), place(2))
            self.assertEqual(answered[3:], [[-6], [3, 0, 0], [3, 0, 1]])

    def test_the_refusal_nearest_to_0(self):
        begun = (STEPS, begin(1, 3, 0))
        for companies in ((1, 1, 2), (2, 1, 1), (2, 2), (9, 9), (1, 1, FAR), (1,) * 69 + (-FAR,)):
            self.assertEqual(last(*begun, soldout(*companies)), [-1])

    def test_all_eight(self):
        begun = [begin(company, 3, 0) for company in range(8, 0, -1)]
        answered = ask(STEPS, *begun, soldout(1, 2, 3, 4, 5, 6, 7, 8), order(), price(1))
        self.assertEqual(answered[9:], [[8], [8, 8, 7, 6, 5, 4, 3, 2, 1], [30]])


class TestMoves(unittest.TestCase):
    def go(self, start, *numbers):
        return tuple(last(STEPS, begin(1, start[0], start[1]), moves(1, *numbers), place(1))[:2])

    def test_each_move_within_the_board(self):
        self.assertEqual(self.go((1, 1), UP), (0, 1))
        self.assertEqual(self.go((1, 1), RIGHT), (1, 2))
        self.assertEqual(self.go((1, 1), DOWN), (2, 1))
        self.assertEqual(self.go((1, 1), LEFT), (1, 0))

    def test_each_move_from_the_corners(self):
        goals = [[self.go(start, move) for move in (UP, RIGHT, DOWN, LEFT)] for start in CORNERS]
        self.assertEqual(goals[0], [(0, 0), (0, 1), (1, 0), (1, 0)])
        self.assertEqual(goals[1], [(0, 3), (0, 3), (0, 3), (0, 2)])
        self.assertEqual(goals[2], [(2, 0), (2, 0), (3, 0), (3, 0)])

    def test_from_the_last_column_of_a_row(self):
        self.assertEqual([self.go((1, 2), move) for move in (UP, RIGHT, DOWN, LEFT)], [(0, 2), (0, 2), (1, 2), (1, 1)])
        self.assertEqual([self.go((2, 1), move) for move in (UP, RIGHT, DOWN, LEFT)], [(1, 1), (1, 1), (2, 1), (2, 0)])

    def test_one_after_another(self):
        self.assertEqual(self.go((3, 0), RIGHT, RIGHT, RIGHT, RIGHT, RIGHT, RIGHT), (0, 3))
        self.assertEqual(self.go((3, 0), RIGHT, RIGHT, RIGHT, RIGHT, RIGHT), (0, 2))
        self.assertEqual(self.go((0, 3), LEFT, LEFT, LEFT, LEFT, LEFT, LEFT), (3, 0))
        self.assertEqual(self.go((0, 3), DOWN, LEFT, DOWN, DOWN, RIGHT), (0, 2))

    def test_answers_the_price(self):
        self.assertEqual(last(STEPS, begin(1, 1, 1), moves(1, UP, RIGHT)), [70])
        self.assertEqual(last(STEPS, begin(1, 1, 1), moves(1)), [50])

    def test_sixty_and_sixty_one(self):
        self.assertEqual(last(STEPS, begin(1, 1, 1), moves(1, *[UP, DOWN] * 29, UP, RIGHT)), [70])
        for count in (61, 70):
            answered = ask(STEPS, begin(1, 1, 1), moves(1, *[UP] * count), place(1))
            self.assertEqual(answered[2:], [[-2], [1, 1, 0]])

    def test_no_such_move(self):
        for number in (0, 5, -1, -3, 6, FAR, -FAR):
            rows = (moves(1, number), moves(1, UP, number), moves(1, number, UP))
            answered = ask(STEPS, begin(1, 1, 1), *rows, place(1))
            self.assertEqual(answered[2:], [[-2], [-2], [-2], [1, 1, 0]])

    def test_no_marker(self):
        for company in NO_COMPANIES + (2,):
            for numbers in ((), (1,), (0,), (5,), (FAR,), (1,) * 61):
                self.assertEqual(last(begin(1, 0, 0), moves(company, *numbers)), [-1])

    def test_a_closing_cell_ends_the_row_of_moves(self):
        answered = ask(CLOSING, begin(1, 1, 0), moves(1, UP, DOWN), order(), begin(1, 1, 0))
        self.assertEqual(answered[2:], [[0], [0], [-3]])

    def test_a_wrong_move_behind_a_closing_cell_is_refused(self):
        answered = ask(CLOSING, begin(1, 1, 0), moves(1, UP, 5), place(1))
        self.assertEqual(answered[2:], [[-2], [1, 0, 0]])

    def test_closed_one_after_another(self):
        begun = (CLOSING, begin(3, 1, 0), begin(1, 0, 1), begin(2, 1, 0))
        answered = ask(*begun, moves(1, LEFT), moves(3, UP), sell(2, 10), closed(), order())
        self.assertEqual(answered[4:], [[0], [0], [0], [3, 1, 3, 2], [0]])

    def test_back_in_its_cell_it_keeps_its_place(self):
        begun = (STEPS, begin(1, 1, 1), begin(2, 1, 1), begin(3, 1, 1))
        for row in ((), (UP, DOWN), (RIGHT, LEFT), (DOWN, UP), (LEFT, RIGHT), (UP, RIGHT, DOWN, LEFT)):
            answered = ask(*begun, moves(1, *row), moves(2, *row), place(1), place(2), place(3), order())
            self.assertEqual(answered[4:], [[50], [50], [1, 1, 0], [1, 1, 1], [1, 1, 2], [3, 1, 2, 3]])

    def test_where_there_is_nowhere_to_go_it_keeps_its_place(self):
        begun = (STEPS, begin(1, 0, 3), begin(2, 0, 3))
        answered = ask(*begun, moves(1, UP), pay(1, 5), soldout(1), sell(1, 3), place(1), place(2))
        self.assertEqual(answered[3:], [[80], [80], [1], [80], [0, 3, 0], [0, 3, 1]])

    def test_in_two_calls_it_comes_back_under_the_others(self):
        begun = (STEPS, begin(1, 1, 1), begin(2, 1, 1), begin(3, 1, 1))
        answered = ask(*begun, moves(1, UP), place(2), moves(1, DOWN), place(1), place(2), place(3), order())
        self.assertEqual(answered[4:], [[60], [1, 1, 0], [50], [1, 1, 2], [1, 1, 0], [1, 1, 1], [3, 2, 3, 1]])

    def test_passing_through_cells_changes_nothing_there(self):
        begun = (STEPS, begin(1, 3, 0), begin(2, 2, 0), begin(3, 2, 0))
        answered = ask(*begun, moves(1, UP, UP), place(1), place(2), place(3))
        self.assertEqual(answered[4:], [[40], [1, 0, 0], [2, 0, 0], [2, 0, 1]])


class TestAsking(unittest.TestCase):
    def test_no_marker(self):
        closed = (CLOSING, begin(1, 1, 0), moves(1, UP))
        for company in NO_COMPANIES + (1, 2):
            self.assertEqual(ask(*closed, price(company), place(company))[3:], [[-1], [-1]])

    def test_load_lets_the_closed_begin_again(self):
        closed = (CLOSING, begin(1, 1, 0), moves(1, UP))
        self.assertEqual(ask(*closed, load("x"), begin(1, 1, 0))[3:], [[-101], [-3]])
        self.assertEqual(ask(*closed, CLOSING, begin(1, 1, 0))[3:], [[4], [40]])

    def test_the_price_is_that_of_the_cell_now(self):
        answered = ask(STEPS, begin(1, 0, 0), price(1), sell(1, 2), price(1), pay(1, 1), price(1))
        self.assertEqual(answered[2:], [[50], [30], [30], [40], [40]])

    def test_the_place_counts_those_of_its_cell_alone(self):
        begun = (STEPS, begin(1, 0, 0), begin(2, 1, 0), begin(3, 0, 1), begin(4, 1, 0), begin(5, 1, 1))
        self.assertEqual(ask(*begun, place(4), place(5))[6:], [[1, 0, 1], [1, 1, 0]])

    def test_the_stack_closes_up_when_one_leaves(self):
        begun = (STEPS, begin(1, 1, 0), begin(2, 1, 0), begin(3, 1, 0))
        self.assertEqual(ask(*begun, sell(2, 1), place(1), place(3))[5:], [[1, 0, 0], [1, 0, 1]])

    def test_asking_changes_nothing(self):
        asked = (price(1), place(1), order(), cell(0, 0), print_board(), price(2), place(9))
        first = ask(STEPS, begin(1, 3, 0), *asked)[2:]
        again = ask(STEPS, begin(1, 3, 0), *asked, *asked)[9:]
        self.assertEqual(first, again)
        self.assertEqual(first[4], counted("50b 60b 70b 80b\n40b 50b 60b\n30b 40b\n20b\n"))


class TestOrder(unittest.TestCase):
    def test_no_markers(self):
        self.assertEqual(last(order()), [0])

    def test_the_greater_price_first(self):
        answered = last(STEPS, begin(1, 3, 0), begin(2, 0, 3), begin(3, 1, 1), begin(4, 0, 2), order())
        self.assertEqual(answered, [4, 2, 4, 3, 1])

    def test_a_price_goes_ahead_of_column_and_row(self):
        board = load("90b 95b\n10b 20b\n")
        self.assertEqual(last(board, begin(1, 1, 1), begin(2, 0, 0), order()), [2, 2, 1])
        board = load("10b 50b\n10b 40b\n10b 30b\n")
        self.assertEqual(last(board, begin(1, 2, 1), begin(2, 0, 0), begin(3, 1, 1), order()), [3, 3, 1, 2])

    def test_of_equal_prices_the_greater_column_first(self):
        for companies in ((1, 2, 3), (3, 2, 1), (2, 1, 3)):
            begun = [begin(companies[0], 0, 0), begin(companies[1], 1, 1), begin(companies[2], 2, 1)]
            board = load("50b 60b\n40b 50b\n30b 50b\n")
            self.assertEqual(last(board, *begun, order()), [3, companies[1], companies[2], companies[0]])

    def test_of_equal_columns_the_lesser_row_first(self):
        board = load("50b\n50b\n50b\n")
        self.assertEqual(last(board, begin(1, 2, 0), begin(2, 1, 0), begin(3, 0, 0), order()), [3, 3, 2, 1])

    def test_in_one_cell_the_one_further_up_first(self):
        self.assertEqual(last(begin(3, 0, 0), begin(1, 0, 0), begin(2, 0, 0), order()), [3, 3, 1, 2])

    def test_who_came_later_but_is_dearer(self):
        begun = (STEPS, begin(1, 0, 0), begin(2, 0, 0), begin(3, 1, 1))
        # 3 stands at 50 as the others do, in a greater column; then 1 comes under it.
        self.assertEqual(last(*begun, order()), [3, 3, 1, 2])
        self.assertEqual(last(*begun, moves(1, RIGHT, DOWN), order()), [3, 3, 1, 2])
        self.assertEqual(last(*begun, moves(2, RIGHT, DOWN), order()), [3, 3, 2, 1])


if __name__ == "__main__":
    unittest.main()
