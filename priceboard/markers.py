"""The markers of the companies: where they are, who is closed, whether the game is ended, who acts first."""

from priceboard.grid import CLOSE, END


class Markers:
    def __init__(self):
        # Keys stand in the order in which markers came to their cells,
        # so the companies of one cell stand in the order of its stack, the uppermost first.
        self.places = {}
        self.closed = []
        self.ended = False

    def copied(self):
        twin = Markers()
        twin.places = dict(self.places)
        twin.closed = list(self.closed)
        twin.ended = self.ended
        return twin

    def put(self, company, place):
        self.places[company] = place

    def send(self, grid, company, moves):
        before = self.places[company]
        after = grid.walk(before, moves)
        # A marker that comes back to its cell never left its place in the stack.
        if after == before:
            return
        # Taken out and put in again, the key goes to the end: under all that are there.
        self.places.pop(company)
        letters = grid.letters(after)
        if CLOSE in letters:
            self.closed.append(company)
        else:
            self.put(company, after)
        if END in letters:
            self.ended = True

    def stack(self, place):
        return [company for company in self.places if self.places[company] == place]

    def order(self, grid):
        # Ranks are equal within one cell alone, and there sorted keeps the order of the stack.
        def rank(company):
            place = self.places[company]
            return (-grid.price(place), -place[1], place[0])

        return sorted(self.places, key=rank)
