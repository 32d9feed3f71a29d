"""The grid of prices and the moves between its cells.

A cell is a tuple: its price, and a tuple of its letters as bytes, in the order of the alphabet.
A place is a tuple: the number of a row and the number of a column.
"""

UP = 1
RIGHT = 2
DOWN = 3
LEFT = 4
MOVES = (1, 2, 3, 4)

BEGIN = 98
CLOSE = 99
END = 101
# The last one, f for free, has no name of its own: nothing hangs on it.
LETTERS = (98, 99, 101, 102)


class Grid:
    def __init__(self, rows):
        self.rows = rows

    def has(self, place):
        row = place[0]
        column = place[1]
        return 0 <= row < len(self.rows) and 0 <= column < len(self.rows[row])

    def all_places(self):
        places = []
        for row in range(len(self.rows)):
            places.extend([(row, column) for column in range(len(self.rows[row]))])
        return places

    def price(self, place):
        return self.rows[place[0]][place[1]][0]

    def letters(self, place):
        return self.rows[place[0]][place[1]][1]

    def step(self, place, move):
        row = place[0]
        column = place[1]
        if move == RIGHT and self.has((row, column + 1)):
            return (row, column + 1)
        if move == LEFT and column > 0:
            return (row, column - 1)
        # At the end of its row a move right becomes one up, and at column 0 a move left becomes one down.
        goal = (row - 1, column) if move in (UP, RIGHT) else (row + 1, column)
        return goal if self.has(goal) else place

    def walk(self, place, moves):
        here = place
        for move in moves:
            if CLOSE in self.letters(here):
                return here
            here = self.step(here, move)
        return here

    def beyond(self, edge, reached):
        fresh = []
        for place in edge:
            for move in MOVES:
                # A walk of one move, not a step, for out of a cell that closes no move leads.
                goal = self.walk(place, [move])
                if goal not in reached:
                    reached[goal] = True
                    fresh.append(goal)
        return fresh

    def least_moves(self, start, goal):
        # None stands for no way. The edge holds the places that are reached by count moves and by no fewer.
        reached = {start: True}
        edge = [start]
        count = 0
        while edge:
            if goal in edge:
                return count
            edge = self.beyond(edge, reached)
            count += 1
        return None
