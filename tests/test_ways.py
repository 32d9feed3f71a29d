"""reach, same and steps: where rows of moves lead, and least numbers of moves."""

import unittest

from tests.helper import DOWN, FAR, LEFT, RIGHT, UP, ask, begin, last, load, moves, place, reach, same, size, steps

STEPS = load("50b 60b 70b 80b\n40b 50b 60b\n30b 40b\n20b\n")
STEPS_ROWS = (4, 3, 2, 1)
STEPS_PLACES = [(row, column) for row in range(4) for column in range(STEPS_ROWS[row])]
# One cell that closes lies in the middle of a row, one at the lower left.
CLOSING = load("50 60 70 80\n40 50c 60 70\n30 40 50 60\n20c 30 40\n")
NO_PLACES = ((-1, 0), (0, -1), (4, 0), (0, 4), (1, 3), (3, 1), (-1, -1), (FAR, 0), (0, FAR), (-FAR, 0), (0, -FAR),
             (FAR, FAR), (-FAR, -FAR))
NO_MOVES = (0, 5, -1, -4, 6, 10, FAR, -FAR)


def board_of(free, rows, columns):
    # A board on which all cells but one close.
    lines = [" ".join([f"{column + 1}" + ("" if (row, column) == free else "c") for column in range(columns)])
             for row in range(rows)]
    return load("\n".join(lines) + "\n")


class TestReach(unittest.TestCase):
    def goals(self, start, *rows):
        return [tuple(answer) for answer in ask(STEPS, *[reach(start[0], start[1], *row) for row in rows])[1:]]

    def each_move(self, start):
        return self.goals(start, (UP,), (RIGHT,), (DOWN,), (LEFT,))

    def test_each_move(self):
        self.assertEqual(self.each_move((1, 1)), [(0, 1), (1, 2), (2, 1), (1, 0)])
        self.assertEqual(self.each_move((0, 0)), [(0, 0), (0, 1), (1, 0), (1, 0)])
        self.assertEqual(self.each_move((0, 3)), [(0, 3), (0, 3), (0, 3), (0, 2)])
        self.assertEqual(self.each_move((1, 2)), [(0, 2), (0, 2), (1, 2), (1, 1)])
        self.assertEqual(self.each_move((2, 0)), [(1, 0), (2, 1), (3, 0), (3, 0)])
        self.assertEqual(self.each_move((3, 0)), [(2, 0), (2, 0), (3, 0), (3, 0)])

    def test_one_after_another(self):
        rows = ((RIGHT,) * 5, (RIGHT,) * 6, (UP, UP, RIGHT), (RIGHT, RIGHT, UP, LEFT))
        self.assertEqual(self.goals((3, 0), *rows), [(0, 2), (0, 3), (1, 1), (1, 0)])
        self.assertEqual(self.goals((0, 3), (LEFT,) * 6, (DOWN, LEFT, DOWN, DOWN, RIGHT)), [(3, 0), (0, 2)])

    def test_an_empty_row(self):
        for row, column in STEPS_PLACES:
            self.assertEqual(last(STEPS, reach(row, column)), [row, column])

    def test_on_the_first_board(self):
        for row in ((), (UP,), (RIGHT,), (DOWN,), (LEFT,), (LEFT, DOWN, RIGHT, UP)):
            self.assertEqual(last(reach(0, 0, *row)), [0, 0])

    def test_leads_where_a_marker_goes(self):
        for row in ((UP,), (DOWN, RIGHT, RIGHT), (LEFT, LEFT, LEFT), (RIGHT, DOWN, DOWN, LEFT, UP)):
            for start in STEPS_PLACES:
                answered = ask(STEPS, begin(1, *start), moves(1, *row), place(1), reach(*start, *row))
                self.assertEqual(answered[3][:2], answered[4])

    def test_a_closing_cell_ends_the_row_of_moves(self):
        rows = ((0, 1, DOWN), (0, 1, DOWN, DOWN), (0, 1, DOWN, RIGHT, UP), (1, 0, RIGHT, RIGHT),
                (1, 2, LEFT, LEFT, LEFT), (2, 1, UP, UP, UP), (0, 0, RIGHT, DOWN, LEFT))
        for row in rows:
            self.assertEqual(last(CLOSING, reach(*row)), [1, 1])
        self.assertEqual(last(CLOSING, reach(0, 0, DOWN, DOWN, LEFT, RIGHT, UP)), [3, 0])
        self.assertEqual(last(CLOSING, reach(3, 2, LEFT, LEFT, LEFT, RIGHT)), [3, 0])

    def test_from_a_closing_cell(self):
        for row in ((), (UP,), (RIGHT,), (DOWN,), (LEFT,), (UP, RIGHT), (DOWN,) * 60):
            self.assertEqual(last(CLOSING, reach(1, 1, *row)), [1, 1])
            self.assertEqual(last(CLOSING, reach(3, 0, *row)), [3, 0])

    def test_cells_that_end_or_are_free_stop_nobody(self):
        self.assertEqual(last(load("10 20e 30f 40bef 50\n"), reach(0, 0, RIGHT, RIGHT, RIGHT, RIGHT)), [0, 4])

    def test_sixty_and_sixty_one(self):
        row = [UP, DOWN] * 29 + [UP, RIGHT]
        self.assertEqual(last(STEPS, reach(1, 1, *row)), [0, 2])
        self.assertEqual(last(STEPS, reach(1, 1, *row[:-1])), [0, 1])
        for count in (61, 62, 70):
            self.assertEqual(last(STEPS, reach(1, 1, *[UP] * count)), [-2])

    def test_no_such_move(self):
        for number in NO_MOVES:
            for row in ((number,), (UP, number), (number, UP), (UP,) * 59 + (number,), (number,) * 70):
                self.assertEqual(last(STEPS, reach(1, 1, *row)), [-2])
            self.assertEqual(last(CLOSING, reach(1, 1, number)), [-2])
            self.assertEqual(last(CLOSING, reach(0, 1, DOWN, number)), [-2])

    def test_no_such_cell(self):
        for row, column in NO_PLACES:
            self.assertEqual(ask(STEPS, reach(row, column), reach(row, column, UP))[1:], [[-1], [-1]])

    def test_the_refusal_nearest_to_0(self):
        for row, column in NO_PLACES:
            for numbers in ((0,), (5, UP), (FAR,), (-FAR,) * 70, (UP,) * 61):
                self.assertEqual(last(STEPS, reach(row, column, *numbers)), [-1])

    def test_moves_no_marker(self):
        self.assertEqual(ask(STEPS, begin(1, 1, 1), reach(1, 1, UP), place(1), size())[2:],
                         [[0, 1], [1, 1, 0], [4, 4, 10, 1, 1]])


class TestSame(unittest.TestCase):
    def check(self, board, one, two, answer):
        self.assertEqual(ask(board, same(one, two), same(two, one))[1:], [[answer], [answer]])

    def test_a_row_and_itself(self):
        for row in ((), (UP,), (RIGHT, DOWN), (LEFT,) * 60):
            self.check(STEPS, row, row, 1)

    def test_empty_rows(self):
        self.assertEqual(last(same((), ())), [1])
        self.check(STEPS, (), (), 1)
        for move in (UP, RIGHT, DOWN, LEFT):
            self.check(STEPS, (), (move,), 0)
            self.assertEqual(last(same((), (move,))), [1])

    def test_on_the_first_board_all_are_the_same(self):
        self.assertEqual(last(same((UP, RIGHT), (DOWN, LEFT, LEFT))), [1])

    def test_the_same_from_each_cell(self):
        self.check(STEPS, (UP,) * 3, (UP,) * 4, 1)
        self.check(STEPS, (RIGHT,) * 6, (UP,) * 3 + (RIGHT,) * 3, 1)
        self.check(STEPS, (LEFT,) * 6, (LEFT,) * 60, 1)
        self.check(STEPS, (LEFT, LEFT, LEFT, DOWN, DOWN, DOWN), (DOWN,) * 3 + (LEFT,) * 6, 1)
        self.check(load("10\n9\n8\n"), (RIGHT, LEFT), (UP, DOWN), 1)
        self.check(load("10\n9\n8\n"), (LEFT,), (DOWN,), 1)
        self.check(load("10 20 30\n"), (UP, DOWN), (), 1)

    def test_not_the_same(self):
        self.check(STEPS, (UP,), (DOWN,), 0)
        self.check(STEPS, (UP,), (RIGHT,), 0)
        self.check(STEPS, (UP, DOWN), (), 0)
        self.check(STEPS, (RIGHT, LEFT), (), 0)
        self.check(STEPS, (UP, RIGHT), (RIGHT, UP), 0)
        self.check(STEPS, (LEFT,) * 5, (LEFT,) * 6, 0)

    def test_rows_that_part_at_the_lowest_cell_alone(self):
        self.check(STEPS, (UP,) * 2, (UP,) * 3, 0)
        answered = ask(STEPS, *[reach(*start, *row) for start in STEPS_PLACES for row in ((UP,) * 2, (UP,) * 3)])[1:]
        parted = [STEPS_PLACES[k] for k in range(10) if answered[2 * k] != answered[2 * k + 1]]
        self.assertEqual(parted, [(3, 0)])

    def test_rows_that_part_at_the_first_cell_alone(self):
        self.check(load("50 60\n40 50\n30 40\n20\n"), (DOWN,) * 2, (DOWN,) * 3, 0)
        self.check(load("50 60\n40 50\n30 40\n20\n"), (DOWN,) * 3, (DOWN,) * 4, 1)

    def test_rows_that_part_at_one_cell_wherever_it_is(self):
        for row in range(3):
            for column in range(3):
                board = board_of((row, column), 3, 3)
                self.check(board, (UP,), (DOWN,), 0)
                self.check(board, (UP, DOWN), (UP, LEFT), 1 if row > 0 else 0 if column > 0 else 1)

    def test_closing_cells_make_rows_the_same(self):
        nowhere = board_of(None, 3, 4)
        for one, two in (((UP,), (DOWN,)), ((), (LEFT,)), ((RIGHT, RIGHT), (UP,))):
            self.check(nowhere, one, two, 1)
        # Whoever goes up comes to a cell that closes, and what follows moves nobody.
        self.check(load("10c 20c\n9 19\n"), (UP, DOWN), (UP, RIGHT), 1)
        self.check(load("10 20c\n9 19\n"), (UP, DOWN), (UP, RIGHT), 0)

    def test_the_greatest_board(self):
        row = " ".join([str(price) for price in range(1, 21)]) + "\n"
        board = load(row * 12)
        self.check(board, (LEFT,) * 30, (LEFT,) * 60, 1)
        self.check(board, (LEFT,) * 29, (LEFT,) * 60, 0)
        self.check(board, (DOWN,) * 11 + (LEFT,) * 19, (LEFT,) * 30, 1)

    def test_sixty_and_sixty_one(self):
        self.check(STEPS, (UP,) * 60, (UP,) * 59, 1)
        for count in (61, 70):
            self.check(STEPS, (UP,) * count, (UP,) * 60, -2)
            self.check(STEPS, (UP,) * count, (), -2)
            self.check(STEPS, (UP,) * count, (UP,) * count, -2)

    def test_no_such_move(self):
        for number in NO_MOVES:
            for row in ((number,), (UP, number), (number, UP), (number,) * 70):
                self.check(STEPS, row, (), -2)
                self.check(STEPS, row, (UP,) * 60, -2)
                self.check(STEPS, row, row, -2)
                self.check(board_of(None, 2, 2), row, row, -2)

    def test_what_follows_is_read(self):
        answered = ask(same((1, 2, 3), (4,)), same((), (1, 1)), same((1,), ()), same((9,) * 70, (9,) * 70), size())
        self.assertEqual(answered, [[1], [1], [1], [-2], [1, 1, 1, 0, 0]])

    def test_moves_no_marker(self):
        self.assertEqual(ask(STEPS, begin(1, 1, 1), same((UP,), (UP,)), place(1), size())[2:],
                         [[1], [1, 1, 0], [4, 4, 10, 1, 1]])


class TestSteps(unittest.TestCase):
    def check(self, board, start, goal, *answer):
        self.assertEqual(last(board, steps(*start, *goal)), list(answer))

    def test_from_a_cell_to_itself(self):
        self.assertEqual(last(steps(0, 0, 0, 0)), [1, 0])
        for start in STEPS_PLACES:
            self.check(STEPS, start, start, 1, 0)

    def test_one_move(self):
        for goal in ((0, 1), (1, 2), (2, 1), (1, 0)):
            self.check(STEPS, (1, 1), goal, 1, 1)

    def test_no_more_than_rows_and_columns_apart(self):
        # No cell closes, and no row is longer than the one above: the way over the upper left is always there.
        for start in STEPS_PLACES:
            for goal in STEPS_PLACES:
                apart = abs(start[0] - goal[0]) + abs(start[1] - goal[1])
                self.check(STEPS, start, goal, 1, apart)

    def test_the_greatest_board(self):
        row = " ".join([str(price) for price in range(1, 21)]) + "\n"
        self.check(load(row * 12), (11, 0), (0, 19), 1, 30)
        self.check(load(row * 12), (0, 19), (11, 0), 1, 30)

    def test_round_a_closing_cell(self):
        self.check(CLOSING, (1, 0), (1, 2), 1, 4)
        self.check(CLOSING, (1, 2), (1, 0), 1, 4)
        self.check(CLOSING, (0, 1), (2, 1), 1, 4)
        self.check(CLOSING, (2, 0), (3, 1), 1, 2)
        self.check(CLOSING, (1, 0), (3, 2), 1, 4)

    def test_to_a_closing_cell(self):
        for start, count in (((0, 1), 1), ((1, 0), 1), ((1, 2), 1), ((2, 1), 1), ((0, 0), 2), ((0, 3), 3), ((3, 2), 3)):
            self.check(CLOSING, start, (1, 1), 1, count)
        self.check(CLOSING, (2, 0), (3, 0), 1, 1)
        self.check(CLOSING, (0, 0), (3, 0), 1, 3)

    def test_from_a_closing_cell(self):
        self.check(CLOSING, (1, 1), (1, 1), 1, 0)
        self.check(CLOSING, (3, 0), (3, 0), 1, 0)
        for goal in ((0, 1), (1, 0), (1, 2), (2, 1), (0, 0), (3, 0), (3, 2)):
            self.check(CLOSING, (1, 1), goal, 0)
        self.check(CLOSING, (3, 0), (1, 1), 0)

    def test_no_way(self):
        wall = load("10 20c 30\n")
        self.check(wall, (0, 0), (0, 2), 0)
        self.check(wall, (0, 2), (0, 0), 0)
        self.check(wall, (0, 0), (0, 1), 1, 1)
        self.check(wall, (0, 2), (0, 1), 1, 1)
        column = load("30\n20ce\n10\n")
        self.check(column, (0, 0), (2, 0), 0)
        self.check(column, (2, 0), (0, 0), 0)
        corner = load("50 60 70\n40 50c 60c\n30c 40 50\n")
        self.check(corner, (0, 0), (2, 2), 0)
        self.check(corner, (2, 2), (0, 0), 0)
        self.check(corner, (1, 0), (0, 2), 1, 3)

    def test_closing_cells_side_by_side(self):
        # The way to the second one would lead through the first.
        two = load("10 20c 30c\n")
        self.check(two, (0, 0), (0, 2), 0)
        self.check(two, (0, 1), (0, 2), 0)

    def test_cells_that_end_or_are_free_stop_nobody(self):
        self.check(load("10 20e 30f 40bef 50\n"), (0, 0), (0, 4), 1, 4)

    def test_a_way_of_more_than_sixty_moves(self):
        def line(row):
            gap = 19 if row % 4 == 1 else 0
            closes = [row % 2 == 1 and column != gap for column in range(20)]
            return " ".join([f"{column + 1}" + ("c" if closes[column] else "") for column in range(20)])

        board = load("\n".join([line(row) for row in range(11)]) + "\n")
        self.check(board, (0, 0), (10, 0), 1, 6 * 19 + 5 * 2)
        self.check(board, (0, 0), (10, 19), 1, 5 * 19 + 5 * 2)

    def test_no_such_cell(self):
        for no_place in NO_PLACES:
            for there in ((0, 0), (3, 0), (1, 2)):
                self.check(STEPS, no_place, there, -1)
                self.check(STEPS, there, no_place, -1)
            self.check(STEPS, no_place, no_place, -1)
        self.check(CLOSING, (1, 1), (9, 9), -1)

    def test_markers_are_in_nobodys_way(self):
        self.assertEqual(ask(STEPS, begin(1, 0, 1), steps(0, 0, 0, 2), place(1), size())[2:],
                         [[1, 2], [0, 1, 0], [4, 4, 10, 1, 1]])

    def test_each_way_is_one_that_reach_knows(self):
        # The least number is the one of the first length at which some row of moves leads there.
        places = [(row, column) for row in range(2) for column in range(3)]
        board = load("10 20c 30\n9 19 29\n")
        rows = [[()]]
        for length in range(5):
            rows.append([row + (move,) for row in rows[-1] for move in (UP, RIGHT, DOWN, LEFT)])
        for start in places:
            least = {}
            for length in range(6):
                for k in range(0, len(rows[length]), 150):
                    asked = [reach(*start, *row) for row in rows[length][k:k + 150]]
                    for answer in ask(board, *asked)[1:]:
                        least.setdefault(tuple(answer), length)
            for goal in places:
                self.check(board, start, goal, *([1, least[goal]] if goal in least else [0]))


if __name__ == "__main__":
    unittest.main()
