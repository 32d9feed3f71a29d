"""The game: a grid, the markers on it, and what the markers were before the last changes."""

from priceboard.grid import BEGIN, Grid
from priceboard.markers import Markers

FIRST_PRICE = 100
MOST_CHANGES = 50


class Game:
    def __init__(self):
        self.grid = Grid([[(FIRST_PRICE, (BEGIN,))]])
        self.markers = Markers()
        # The markers before each of the last changes, the oldest first.
        self.past = []

    def lay(self, grid):
        self.grid = grid
        self.markers = Markers()
        self.past = []

    def record_change(self):
        self.past.append(self.markers.copied())
        if len(self.past) > MOST_CHANGES:
            self.past.pop(0)

    def take_back(self):
        self.markers = self.past.pop()
