"""undo and size: what a change is, how many are kept, and that all is as it was before."""

import unittest

from tests.helper import DOWN, FAR, LEFT, RIGHT, UP, ask, begin, cell, closed, counted, ended, first, last, load, moves
from tests.helper import order, pay, place, price, print_board, reach, same, sell, size, soldout, stack, steps, undo
from tests.helper import worth

STEPS = load("50b 60b 70b 80b\n40b 50b 60b\n30b 40b\n20b\n")
# Below, to the right and above lie cells that close, that end, and that do both.
MIXED_TEXT = "50ce 60b 70e 80c\n40b 50be 60\n30c 40b\n"
MIXED = load(MIXED_TEXT)
ROWS = (4, 3, 2)
ALL_STACKS = [stack(row, column) for row in range(3) for column in range(ROWS[row])]
# All that the markers, the stacks, the closed companies and the ending are.
STATE = [order(), closed(), ended(), print_board()] + ALL_STACKS + [place(company) for company in range(1, 9)]
ASKING = (print_board(), cell(0, 0), price(1), place(1), order(), stack(0, 0), closed(), ended(), reach(0, 0, UP),
          same((UP,), (DOWN,)), steps(0, 0, 0, 0), worth(1, 2, 3, 4, 5, 6, 7, 8), first(1, 1), size())
REFUSED_ASKING = (cell(9, 9), price(2), place(2), stack(9, 9), reach(9, 9), reach(0, 0, 5), same((5,), ()),
                  steps(9, 9, 0, 0), worth(), first(1, 2))


def state_after(*calls):
    return ask(*calls, *STATE)[len(calls):]


class TestChanges(unittest.TestCase):
    # How many changes may be taken back behind these calls.
    def kept(self, *calls):
        return last(*calls, size())[4]

    def test_each_change_is_one(self):
        begun = (STEPS, begin(1, 0, 0))
        self.assertEqual(self.kept(), 0)
        self.assertEqual(self.kept(*begun), 1)
        for call in (begin(2, 0, 0), sell(1, 1), pay(1, 1), pay(1, 0), pay(1, 99), soldout(1), moves(1, UP, RIGHT)):
            self.assertEqual(self.kept(*begun, call), 2)

    def test_a_change_that_moves_nothing_is_one(self):
        for call in (sell(1, 1), pay(1, 0), pay(1, 1), pay(1, 100), soldout(1), soldout(), moves(1), moves(1, UP)):
            self.assertEqual(self.kept(begin(1, 0, 0), call), 2)

    def test_soldout_of_several_is_one(self):
        self.assertEqual(self.kept(STEPS, begin(1, 3, 0), begin(2, 2, 0), begin(3, 2, 1), soldout(3, 1, 2)), 4)

    def test_a_refusal_is_none(self):
        refused = (begin(1, 0, 0), begin(9, 0, 0), sell(1, 0), sell(2, 1), pay(1, -1), pay(2, 0), soldout(2))
        refused += (soldout(1, 1), moves(1, 5), moves(2, 1), load("x"), load(" " * 4001))
        for call in refused + REFUSED_ASKING:
            answered = ask(begin(1, 0, 0), call, size())
            self.assertLess(answered[1][0], 0)
            self.assertEqual(answered[2][4], 1)
        self.assertEqual(self.kept(load("10\n"), begin(1, 0, 0)), 0)

    def test_an_asking_is_none(self):
        for call in ASKING:
            self.assertEqual(self.kept(begin(1, 0, 0), call), 1)

    def test_load_forgets_them(self):
        self.assertEqual(self.kept(begin(1, 0, 0), sell(1, 1), STEPS), 0)

    def test_the_last_fifty_are_kept(self):
        for changes, kept in ((48, 48), (49, 49), (50, 50), (51, 50), (52, 50), (199, 50)):
            self.assertEqual(self.kept(begin(1, 0, 0), *[sell(1, 1)] * (changes - 1)), kept)


class TestUndo(unittest.TestCase):
    def check_taken_back(self, before, change):
        # The change itself is no refusal, and behind undo all stands as it did before the change.
        answered = ask(*before, change, undo(), size())
        self.assertGreaterEqual(answered[len(before)][0], 0)
        kept = last(*before, size())[4]
        self.assertEqual(answered[-2], [kept])
        self.assertEqual(answered[-1], last(*before, size()))
        self.assertEqual(state_after(*before, change, undo()), state_after(*before))

    def check_something_changed(self, before, change):
        self.assertNotEqual(state_after(*before, change), state_after(*before))

    def test_nothing_to_take_back(self):
        self.assertEqual(ask(undo(), undo(), size()), [[-7], [-7], [1, 1, 1, 0, 0]])
        self.assertEqual(last(STEPS, undo()), [-7])
        self.assertEqual(ask(begin(1, 0, 0), undo(), undo(), order()), [[100], [0], [-7], [0]])

    def test_answers_how_many_more_may_be(self):
        begun = (STEPS, begin(1, 0, 0), sell(1, 1), sell(1, 1))
        answered = ask(*begun, undo(), place(1), undo(), place(1), undo(), place(1))
        self.assertEqual(answered[4:], [[2], [1, 0, 0], [1], [0, 0, 0], [0], [-1]])

    def test_begin(self):
        self.check_taken_back([MIXED], begin(1, 1, 0))
        before = [MIXED, begin(3, 1, 0), begin(2, 1, 0), begin(1, 2, 1)]
        for change in (begin(4, 1, 0), begin(8, 1, 1), begin(5, 0, 1)):
            self.check_something_changed(before, change)
            self.check_taken_back(before, change)

    def test_begin_again_behind_undo(self):
        answered = ask(STEPS, begin(1, 0, 0), undo(), price(1), begin(1, 1, 0), place(1), size())
        self.assertEqual(answered[2:], [[0], [-1], [40], [1, 0, 0], [4, 4, 10, 1, 1]])

    def test_sell(self):
        before = [MIXED, begin(3, 0, 1), begin(2, 1, 1), begin(1, 0, 1), begin(4, 1, 0), begin(5, 1, 0)]
        for change in (sell(3, 1), sell(1, 1), sell(3, 2), sell(2, 10), sell(4, 1), sell(5, 9)):
            self.check_something_changed(before, change)
            self.check_taken_back(before, change)

    def test_pay(self):
        before = [MIXED, begin(3, 0, 1), begin(2, 1, 1), begin(1, 0, 1), begin(4, 1, 0), begin(5, 1, 0)]
        for change in (pay(3, 0), pay(3, 1), pay(1, 1000000000), pay(2, 1), pay(4, 0), pay(4, 1), pay(5, 40)):
            self.check_something_changed(before, change)
            self.check_taken_back(before, change)

    def test_soldout(self):
        before = [MIXED, begin(3, 1, 0), begin(2, 1, 1), begin(1, 2, 1), begin(4, 1, 0), begin(5, 0, 1)]
        for change in (soldout(3), soldout(4, 3), soldout(1, 2), soldout(5, 4, 3, 2, 1), soldout(1, 5)):
            self.check_something_changed(before, change)
            self.check_taken_back(before, change)

    def test_moves(self):
        before = [MIXED, begin(3, 1, 1), begin(2, 1, 1), begin(1, 2, 1), begin(4, 1, 1), begin(5, 0, 1)]
        for row in ((UP,), (RIGHT,), (DOWN,), (LEFT,), (LEFT, LEFT), (UP, RIGHT), (UP, LEFT), (RIGHT, RIGHT, RIGHT)):
            self.check_something_changed(before, moves(2, *row))
            self.check_taken_back(before, moves(2, *row))

    def test_a_change_that_moves_nothing(self):
        before = [MIXED, begin(3, 0, 1), begin(2, 2, 1), begin(1, 0, 1)]
        for change in (soldout(), soldout(3), sell(2, 1), moves(3), moves(3, UP), moves(3, RIGHT, LEFT)):
            self.assertEqual(state_after(*before, change), state_after(*before))
            self.check_taken_back(before, change)
        answered = ask(*before, sell(1, 1), moves(3), undo(), place(1), undo(), place(1))
        self.assertEqual(answered[4:], [[50], [60], [4], [1, 1, 0], [3], [0, 1, 1]])

    def test_a_change_that_moves_nothing_on_the_first_board(self):
        for call in (sell(1, 1), pay(1, 0), pay(1, 1), pay(1, 100), soldout(1), soldout(), moves(1), moves(1, UP)):
            answered = ask(begin(1, 0, 0), call, undo(), order(), undo(), order(), undo())
            self.assertEqual(answered[2:], [[1], [1, 1], [0], [0], [-7]])

    def test_the_stack_is_in_the_order_that_it_had(self):
        begun = (STEPS, begin(5, 1, 1), begin(2, 1, 1), begin(7, 1, 1), begin(1, 1, 1))
        for company in (5, 2, 7, 1):
            answered = ask(*begun, moves(company, UP), undo(), stack(1, 1), moves(company, UP), moves(company, DOWN),
                           undo(), undo(), stack(1, 1))
            self.assertEqual(answered[7], [4, 5, 2, 7, 1])
            self.assertEqual(answered[12], [4, 5, 2, 7, 1])

    def test_the_stack_that_was_come_to(self):
        begun = (STEPS, begin(5, 1, 1), begin(2, 0, 1), begin(7, 0, 1))
        answered = ask(*begun, soldout(5), stack(0, 1), undo(), stack(0, 1), stack(1, 1), soldout(5), stack(0, 1))
        self.assertEqual(answered[4:], [[1], [3, 2, 7, 5], [3], [2, 2, 7], [1, 5], [1], [3, 2, 7, 5]])

    def test_the_closed_are_as_they_were(self):
        begun = (MIXED, begin(3, 1, 0), begin(1, 1, 0), begin(2, 1, 0), sell(3, 1), sell(1, 1), sell(2, 1))
        answered = ask(*begun, closed(), undo(), closed(), stack(1, 0), undo(), closed(), stack(1, 0), undo(), closed(),
                       stack(1, 0), begin(3, 1, 0))
        self.assertEqual(answered[7:], [[3, 3, 1, 2], [5], [2, 3, 1], [1, 2], [4], [1, 3], [2, 1, 2], [3], [0],
                                        [3, 3, 1, 2], [-4]])

    def test_closed_again_behind_undo(self):
        begun = (MIXED, begin(3, 1, 0), begin(1, 1, 0), sell(3, 1), undo())
        self.assertEqual(ask(*begun, sell(1, 1), sell(3, 1), closed())[5:], [[0], [0], [2, 1, 3]])

    def test_a_company_that_was_closed_stays_closed_if_another_change_is_taken_back(self):
        answered = ask(MIXED, begin(3, 1, 0), sell(3, 1), begin(1, 1, 0), undo(), closed(), begin(3, 1, 0))
        self.assertEqual(answered[4:], [[2], [1, 3], [-3]])

    def test_the_ending_is_as_it_was(self):
        answered = ask(MIXED, begin(1, 0, 1), moves(1, RIGHT), ended(), undo(), ended(), moves(1, RIGHT), ended())
        self.assertEqual(answered[3:], [[1], [1], [0], [70], [1]])

    def test_ended_twice_it_stays_until_the_first_is_taken_back(self):
        begun = (MIXED, begin(1, 0, 1), begin(2, 1, 0), moves(1, RIGHT), moves(2, RIGHT), moves(1, LEFT))
        answered = ask(*begun, ended(), undo(), ended(), undo(), ended(), undo(), ended(), undo(), ended())
        self.assertEqual(answered[6:], [[1], [4], [1], [3], [1], [2], [0], [1], [0]])

    def test_closed_and_ended_by_one_change(self):
        answered = ask(MIXED, begin(1, 1, 0), soldout(1), closed(), ended(), undo(), closed(), ended(), place(1))
        self.assertEqual(answered[3:], [[1, 1], [1], [1], [0], [0], [1, 0, 0]])

    def test_one_by_one_back_to_the_beginning(self):
        changes = [begin(1, 1, 0), begin(2, 1, 0), pay(1, 1), begin(3, 0, 1), sell(2, 1), soldout(1, 3), pay(3, 0),
                   begin(4, 2, 1), moves(1, RIGHT), soldout(), moves(4, UP, RIGHT)]
        for count in range(len(changes) + 1):
            behind = state_after(MIXED, *changes, *[undo()] * (len(changes) - count))
            self.assertEqual(behind, state_after(MIXED, *changes[:count]))

    def test_back_and_forth(self):
        # What was taken back is not brought back by a later change or undo.
        answered = ask(STEPS, begin(1, 0, 0), sell(1, 1), undo(), pay(1, 1), sell(1, 1), undo(), place(1), undo(),
                       place(1), undo(), order(), undo())
        self.assertEqual(answered[3:], [[1], [60], [50], [2], [0, 1, 0], [1], [0, 0, 0], [0], [0], [-7]])

    def test_undo_is_no_change(self):
        answered = ask(STEPS, begin(1, 0, 0), sell(1, 1), undo(), undo(), undo(), order())
        self.assertEqual(answered[3:], [[1], [0], [-7], [0]])

    def test_fifty_changes(self):
        calls = [STEPS, begin(1, 0, 0)] + [moves(1, RIGHT), moves(1, LEFT)] * 24 + [moves(1, RIGHT)]
        answered = ask(*calls, size(), *[undo()] * 51, order(), size())[51:]
        self.assertEqual(answered[0], [4, 4, 10, 1, 50])
        self.assertEqual(answered[1:51], [[more] for more in range(49, -1, -1)])
        self.assertEqual(answered[51:], [[-7], [0], [4, 4, 10, 0, 0]])

    def test_fifty_one_changes(self):
        calls = [STEPS, begin(1, 0, 0)] + [moves(1, RIGHT), moves(1, LEFT)] * 25
        answered = ask(*calls, size(), *[undo()] * 51, place(1), size())[52:]
        self.assertEqual(answered[0], [4, 4, 10, 1, 50])
        self.assertEqual(answered[1:51], [[more] for more in range(49, -1, -1)])
        self.assertEqual(answered[51:], [[-7], [0, 0, 0], [4, 4, 10, 1, 0]])

    def test_the_last_fifty_of_many_changes(self):
        # 8 begin and go down one by one, so that every number of changes leaves another state.
        begun = [begin(company, 0, 0) for company in range(1, 9)]
        changes = begun + [sell(1 + k % 8, 1) for k in range(24)] + [moves(1 + k % 8, UP) for k in range(24)]
        self.assertEqual(len(changes), 56)
        behind = state_after(STEPS, *changes, *[undo()] * 50)
        self.assertEqual(behind, state_after(STEPS, *changes[:6]))
        self.assertEqual(ask(STEPS, *changes, *[undo()] * 51)[-2:], [[0], [-7]])

    def test_room_that_undo_makes_is_filled_again(self):
        calls = [begin(1, 0, 0)] + [sell(1, 1)] * 50 + [undo()] * 3
        self.assertEqual(ask(*calls, size())[-2:], [[47], [1, 1, 1, 1, 47]])
        for changes, kept in ((2, 49), (3, 50), (4, 50)):
            self.assertEqual(last(*calls, *[sell(1, 1)] * changes, size()), [1, 1, 1, 1, kept])

    def test_behind_a_load(self):
        answered = ask(begin(1, 0, 0), sell(1, 1), STEPS, undo(), print_board(), order(), size())
        self.assertEqual(answered[3:5], [[-7], counted("50b 60b 70b 80b\n40b 50b 60b\n30b 40b\n20b\n")])
        self.assertEqual(answered[5:], [[0], [4, 4, 10, 0, 0]])

    def test_changes_behind_a_load(self):
        answered = ask(begin(1, 0, 0), STEPS, begin(2, 0, 0), sell(2, 1), undo(), undo(), undo(), order())
        self.assertEqual(answered[4:], [[1], [0], [-7], [0]])

    def test_behind_a_refused_load(self):
        for text, refusal in (("x\n", -101), ("", -101), ("10\n20\n", -102), (" " * 4001, -2)):
            answered = ask(STEPS, begin(1, 0, 0), sell(1, 1), load(text), undo(), place(1), undo(), order(), undo(),
                           size())
            self.assertEqual(answered[3:], [[refusal], [1], [0, 0, 0], [0], [0], [-7], [4, 4, 10, 0, 0]])

    def test_a_refused_call_is_no_change(self):
        refused = (begin(1, 0, 0), begin(2, 0, 0), begin(3, 9, 9), begin(9, 0, 0), begin(3, 0, 2), sell(1, 0),
                   sell(2, 1), pay(1, -1), soldout(1, 1), soldout(1, 2), moves(1, 5), moves(FAR), moves(1, *[UP] * 61))
        begun = (MIXED, begin(2, 1, 0), sell(2, 1), begin(1, 0, 1), pay(1, 1))
        for call in refused + REFUSED_ASKING:
            answered = ask(*begun, call, undo(), place(1))
            self.assertLess(answered[5][0], 0)
            self.assertEqual(answered[6:], [[3], [0, 1, 0]])

    def test_a_refused_undo_changes_nothing(self):
        calls = [begin(1, 0, 0)] + [sell(1, 1)] * 50 + [undo()] * 50
        self.assertEqual(ask(*calls, undo(), order(), undo(), size())[-4:], [[-7], [1, 1], [-7], [1, 1, 1, 1, 0]])

    def test_the_board_stays(self):
        answered = ask(MIXED, begin(1, 0, 1), undo(), print_board())
        self.assertEqual(answered[3], counted(MIXED_TEXT))


class TestSize(unittest.TestCase):
    def test_at_the_beginning(self):
        self.assertEqual(last(size()), [1, 1, 1, 0, 0])

    def test_rows_and_cells(self):
        for text, answer in (("10\n", [1, 1, 1]), ("10 20 30\n", [1, 3, 3]), ("10\n9\n8\n", [3, 1, 3]),
                             ("50 60 70 80\n40 50 60\n30 40\n20\n", [4, 4, 10]),
                             ("10 20 30\n# one\n\n5\n4\n", [3, 3, 5])):
            self.assertEqual(last(load(text), size()), answer + [0, 0])

    def test_the_greatest_board(self):
        row = " ".join([str(price) for price in range(1, 21)]) + "\n"
        self.assertEqual(last(load(row * 12), size()), [12, 20, 240, 0, 0])

    def test_markers(self):
        answered = ask(MIXED, begin(3, 1, 0), begin(8, 1, 0), size(), sell(3, 1), size(), undo(), size())
        self.assertEqual([answered[k] for k in (3, 5, 7)], [[3, 4, 9, 2, 2], [3, 4, 9, 1, 3], [3, 4, 9, 2, 2]])
        begun = [begin(company, 0, 0) for company in range(1, 9)]
        self.assertEqual(last(*begun, size()), [1, 1, 1, 8, 8])

    def test_behind_a_load(self):
        self.assertEqual(last(begin(1, 0, 0), STEPS, size()), [4, 4, 10, 0, 0])
        self.assertEqual(last(STEPS, begin(1, 0, 0), load("10\n\n9 9\n"), size()), [4, 4, 10, 1, 1])

    def test_asking_twice(self):
        self.assertEqual(ask(STEPS, begin(1, 0, 0), size(), size())[2:], [[4, 4, 10, 1, 1]] * 2)


if __name__ == "__main__":
    unittest.main()
