"""Calls written by name, and answers parted call by call."""

from priceboard.board import answers

FAR = 10 ** 18
NO_COMPANIES = (0, -1, 9, -8, 10, FAR, -FAR)

UP = 1
RIGHT = 2
DOWN = 3
LEFT = 4


def load(text):
    signs = list(text if isinstance(text, bytes) else text.encode("latin-1"))
    return [0, len(signs)] + signs


def print_board():
    return [1]


def cell(row, column):
    return [2, row, column]


def begin(company, row, column):
    return [3, company, row, column]


def sell(company, count):
    return [4, company, count]


def pay(company, payment):
    return [5, company, payment]


def soldout(*companies):
    return [6, len(companies)] + list(companies)


def moves(company, *numbers):
    return [7, company, len(numbers)] + list(numbers)


def price(company):
    return [8, company]


def place(company):
    return [9, company]


def order():
    return [10]


def stack(row, column):
    return [11, row, column]


def closed():
    return [12]


def ended():
    return [13]


def reach(row, column, *numbers):
    return [14, row, column, len(numbers)] + list(numbers)


def same(one, two):
    return [15, len(one)] + list(one) + [len(two)] + list(two)


def steps(row, column, goal_row, goal_column):
    return [16, row, column, goal_row, goal_column]


def undo():
    return [17]


def worth(*numbers):
    return [18, len(numbers)] + list(numbers)


def first(one, two):
    return [19, one, two]


def size():
    return [20]


def part(answered):
    parted = []
    position = 0
    while position < len(answered):
        count = answered[position]
        piece = answered[position + 1:position + 1 + count]
        if count < 1 or len(piece) != count:
            raise ValueError(f"no answer of {count} numbers at {position} in {answered}")
        parted.append(piece)
        position += 1 + count
    return parted


def ask(*calls):
    parted = part(answers([number for call in calls for number in call]))
    if len(parted) != len(calls):
        raise ValueError(f"{len(parted)} answers to {len(calls)} calls")
    return parted


def last(*calls):
    return ask(*calls)[-1]


def counted(text):
    return [len(text)] + list(text.encode("ascii"))
