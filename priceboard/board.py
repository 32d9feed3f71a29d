"""The calls on a price board, and their answers.

Each call is a def that takes its arguments from the reader and gives back its answer, a list of whole numbers.
It asks for its refusals from the one nearest to 0 on, and all of them before it changes something.
"""

from priceboard.game import Game
from priceboard.grid import BEGIN, DOWN, LEFT, MOVES, RIGHT, UP, Grid
from priceboard.text import printed_board, read_board

NO_SUCH = -1
OUT_OF_RANGE = -2
WAS_CLOSED = -3
HAS_MARKER = -4
NO_BEGINNING = -5
TOLD_TWICE = -6
NOTHING_TO_TAKE_BACK = -7
WRONG_LINE = -100

COMPANIES = 8
MOST_BYTES = 4000
MOST_SALE = 10
MOST_PAYMENT = 1000000000
MOST_MOVES = 60
MOST_SHARES = 1000000


class Reader:
    def __init__(self, calls):
        self.calls = calls
        self.position = 0

    def has_more(self):
        return self.position < len(self.calls)

    def take_number(self):
        number = self.calls[self.position]
        self.position += 1
        return number

    def take_place(self):
        row = self.take_number()
        column = self.take_number()
        return (row, column)

    def take_list(self):
        size = self.take_number()
        numbers = self.calls[self.position:self.position + size]
        self.position += size
        return numbers


def with_count(numbers):
    return [len(numbers)] + list(numbers)


def has_marker(game, company):
    return company in game.markers.places


def price_of(game, company):
    return game.grid.price(game.markers.places[company])


def are_moves(numbers):
    return len(numbers) <= MOST_MOVES and all([number in MOVES for number in numbers])


def are_shares(numbers):
    return len(numbers) == COMPANIES and all([0 <= number <= MOST_SHARES for number in numbers])


def send_marker(game, company, moves):
    game.record_change()
    game.markers.send(game.grid, company, moves)
    # Its marker is gone only if these moves have closed the company.
    return [price_of(game, company) if has_marker(game, company) else 0]


def load(game, reader):
    text = reader.take_list()
    if len(text) > MOST_BYTES:
        return [OUT_OF_RANGE]
    reading = read_board(text)
    if reading.wrong > 0:
        return [WRONG_LINE - reading.wrong]
    game.lay(Grid(reading.rows))
    return [len(reading.rows)]


def tell_board(game, reader):
    return with_count(printed_board(game.grid.rows))


def tell_cell(game, reader):
    place = reader.take_place()
    if not game.grid.has(place):
        return [NO_SUCH]
    return [game.grid.price(place)] + with_count(game.grid.letters(place))


def begin(game, reader):
    company = reader.take_number()
    place = reader.take_place()
    if not 1 <= company <= COMPANIES or not game.grid.has(place):
        return [NO_SUCH]
    if company in game.markers.closed:
        return [WAS_CLOSED]
    if has_marker(game, company):
        return [HAS_MARKER]
    if BEGIN not in game.grid.letters(place):
        return [NO_BEGINNING]
    game.record_change()
    game.markers.put(company, place)
    return [game.grid.price(place)]


def sell(game, reader):
    company = reader.take_number()
    count = reader.take_number()
    if not has_marker(game, company):
        return [NO_SUCH]
    if not 1 <= count <= MOST_SALE:
        return [OUT_OF_RANGE]
    return send_marker(game, company, [DOWN] * count)


def pay(game, reader):
    company = reader.take_number()
    payment = reader.take_number()
    if not has_marker(game, company):
        return [NO_SUCH]
    if not 0 <= payment <= MOST_PAYMENT:
        return [OUT_OF_RANGE]
    if payment == 0:
        return send_marker(game, company, [LEFT])
    if payment < price_of(game, company):
        return send_marker(game, company, [RIGHT])
    return send_marker(game, company, [RIGHT, RIGHT])


def sold_out(game, reader):
    companies = reader.take_list()
    if not all([has_marker(game, company) for company in companies]):
        return [NO_SUCH]
    if len(set(companies)) < len(companies):
        return [TOLD_TWICE]
    game.record_change()
    # The order is taken once, ahead of the first move, for the moves change it.
    acting = [company for company in game.markers.order(game.grid) if company in companies]
    for company in acting:
        game.markers.send(game.grid, company, [UP])
    return [len(companies)]


def make_moves(game, reader):
    company = reader.take_number()
    moves = reader.take_list()
    if not has_marker(game, company):
        return [NO_SUCH]
    if not are_moves(moves):
        return [OUT_OF_RANGE]
    return send_marker(game, company, moves)


def tell_price(game, reader):
    company = reader.take_number()
    if not has_marker(game, company):
        return [NO_SUCH]
    return [price_of(game, company)]


def tell_place(game, reader):
    company = reader.take_number()
    if not has_marker(game, company):
        return [NO_SUCH]
    place = game.markers.places[company]
    return [place[0], place[1], game.markers.stack(place).index(company)]


def tell_order(game, reader):
    return with_count(game.markers.order(game.grid))


def tell_stack(game, reader):
    place = reader.take_place()
    if not game.grid.has(place):
        return [NO_SUCH]
    return with_count(game.markers.stack(place))


def tell_closed(game, reader):
    return with_count(game.markers.closed)


def tell_ended(game, reader):
    return [1 if game.markers.ended else 0]


def tell_reach(game, reader):
    place = reader.take_place()
    moves = reader.take_list()
    if not game.grid.has(place):
        return [NO_SUCH]
    if not are_moves(moves):
        return [OUT_OF_RANGE]
    return list(game.grid.walk(place, moves))


def tell_same(game, reader):
    one = reader.take_list()
    two = reader.take_list()
    if not are_moves(one) or not are_moves(two):
        return [OUT_OF_RANGE]
    for place in game.grid.all_places():
        if game.grid.walk(place, one) != game.grid.walk(place, two):
            return [0]
    return [1]


def tell_steps(game, reader):
    start = reader.take_place()
    goal = reader.take_place()
    if not game.grid.has(start) or not game.grid.has(goal):
        return [NO_SUCH]
    count = game.grid.least_moves(start, goal)
    return [0] if count is None else [1, count]


def undo(game, reader):
    if not game.past:
        return [NOTHING_TO_TAKE_BACK]
    game.take_back()
    return [len(game.past)]


def tell_worth(game, reader):
    shares = reader.take_list()
    if not are_shares(shares):
        return [OUT_OF_RANGE]
    # Companies without a marker are worth 0, whatever their number in the list.
    return [sum([price_of(game, company) * shares[company - 1] for company in game.markers.places])]


def tell_first(game, reader):
    one = reader.take_number()
    two = reader.take_number()
    if not has_marker(game, one) or not has_marker(game, two):
        return [NO_SUCH]
    acting = game.markers.order(game.grid)
    return [1 if acting.index(one) < acting.index(two) else 0]


def tell_size(game, reader):
    rows = game.grid.rows
    cells = len(game.grid.all_places())
    return [len(rows), len(rows[0]), cells, len(game.markers.places), len(game.past)]


# Each call stands at its number.
CALLS = (
    load,
    tell_board,
    tell_cell,
    begin,
    sell,
    pay,
    sold_out,
    make_moves,
    tell_price,
    tell_place,
    tell_order,
    tell_stack,
    tell_closed,
    tell_ended,
    tell_reach,
    tell_same,
    tell_steps,
    undo,
    tell_worth,
    tell_first,
    tell_size,
)


def play(game, calls):
    reader = Reader(calls)
    answered = []
    while reader.has_more():
        answer_call = CALLS[reader.take_number()]
        answered.extend(with_count(answer_call(game, reader)))
    return answered


def answers(calls):
    return play(Game(), calls)
