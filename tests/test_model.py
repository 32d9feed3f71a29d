"""Many lists of calls, answered by the program and by a plain model of the document that shares nothing with it.

The model keeps each stack as a list of its own, takes a change back by making all earlier ones anew, and finds least
numbers of moves by spreading them over the board until nothing changes.
"""

import random
import unittest

from priceboard.board import answers
from tests.helper import FAR, begin, cell, closed, ended, first, load, moves, order, part, pay, place, price
from tests.helper import print_board, reach, same, sell, size, soldout, stack, steps, undo, worth

CHANGES = ("begin", "sell", "pay", "soldout", "moves")


class Model:
    def __init__(self):
        self.lay([["100b"]])

    def lay(self, rows):
        self.rows = rows
        self.cells = {(r, k): rows[r][k] for r in range(len(rows)) for k in range(len(rows[r]))}
        self.history = []
        self.kept = 0
        self.clear_markers()
        return [len(rows)]

    def clear_markers(self):
        self.stacks = {here: [] for here in self.cells}
        self.closed_ones = []
        self.is_ended = False

    def price_at(self, here):
        return int(self.cells[here].rstrip("bcef"))

    def where(self, company):
        found = [here for here in self.stacks if company in self.stacks[here]]
        return found[0] if found else None

    def next_cell(self, here, move):
        r, k = here
        if "c" in self.cells[here]:
            return here
        if move == 2:
            goals = [(r, k + 1)] if k + 1 < len(self.rows[r]) else [(r - 1, k)]
        elif move == 4:
            goals = [(r, k - 1)] if k > 0 else [(r + 1, k)]
        else:
            goals = [(r - 1, k)] if move == 1 else [(r + 1, k)]
        return goals[0] if goals[0] in self.cells else here

    def goal(self, here, row):
        for move in row:
            here = self.next_cell(here, move)
        return here

    def send(self, company, row):
        before = self.where(company)
        after = self.goal(before, row)
        if after != before:
            self.stacks[before].remove(company)
            if "c" in self.cells[after]:
                self.closed_ones.append(company)
            else:
                self.stacks[after].append(company)
            self.is_ended = self.is_ended or "e" in self.cells[after]
        here = self.where(company)
        return [self.price_at(here) if here else 0]

    def acting(self):
        markers = [(-self.price_at(here), -here[1], here[0], depth, company)
                   for here in self.stacks for depth, company in enumerate(self.stacks[here])]
        return [marker[-1] for marker in sorted(markers)]

    def wrong_moves(self, row):
        return len(row) > 60 or any(move not in (1, 2, 3, 4) for move in row)

    def refusals(self, name, given):
        """Every refusal that is due, in no order."""
        due = []
        if name in ("sell", "pay", "moves", "price", "place") and not self.where(given[0]):
            due.append(-1)
        if name == "begin":
            company, r, k = given
            due += [-1] if company not in range(1, 9) or (r, k) not in self.cells else []
            due += [-3] if company in self.closed_ones else []
            due += [-4] if self.where(company) else []
            due += [-5] if "b" not in self.cells.get((r, k), "") else []
        if name == "sell" and given[1] not in range(1, 11):
            due.append(-2)
        if name == "pay" and given[1] not in range(0, 1000000001):
            due.append(-2)
        if name == "soldout":
            due += [-1] if any(not self.where(company) for company in given) else []
            due += [-6] if len(set(given)) < len(given) else []
        if name == "moves":
            due += [-2] if self.wrong_moves(given[1:]) else []
        if name in ("cell", "stack", "reach") and tuple(given[:2]) not in self.cells:
            due.append(-1)
        if name == "steps" and not (given[:2] in self.cells and given[2:] in self.cells):
            due.append(-1)
        if name == "reach" and self.wrong_moves(given[2:]):
            due.append(-2)
        if name == "same" and (self.wrong_moves(given[0]) or self.wrong_moves(given[1])):
            due.append(-2)
        if name == "undo" and self.kept == 0:
            due.append(-7)
        if name == "worth" and not (len(given) == 8 and all(0 <= number <= 1000000 for number in given)):
            due.append(-2)
        if name == "first" and not (self.where(given[0]) and self.where(given[1])):
            due.append(-1)
        return due

    def answer(self, name, given):
        due = self.refusals(name, given)
        if due:
            return [max(due)]
        if name in CHANGES:
            self.history.append((name, given))
            self.kept = min(50, self.kept + 1)
            return self.change(name, given)
        if name == "undo":
            return self.take_back()
        return self.tell(name, given)

    def take_back(self):
        self.history.pop()
        self.kept -= 1
        self.clear_markers()
        for name, given in self.history:
            self.change(name, given)
        return [self.kept]

    def change(self, name, given):
        if name == "begin":
            self.stacks[given[1:]].append(given[0])
            return [self.price_at(given[1:])]
        if name == "sell":
            return self.send(given[0], [3] * given[1])
        if name == "pay":
            right = [2] if given[1] < self.price_at(self.where(given[0])) else [2, 2]
            return self.send(given[0], right if given[1] else [4])
        if name == "moves":
            return self.send(given[0], given[1:])
        for company in sorted(given, key=self.acting().index):
            self.send(company, [1])
        return [len(given)]

    def tell(self, name, given):
        if name == "print":
            text = "".join(" ".join(row) + "\n" for row in self.rows)
            return [len(text)] + [ord(sign) for sign in text]
        if name == "cell":
            letters = self.cells[given].lstrip("0123456789")
            return [self.price_at(given), len(letters)] + [ord(sign) for sign in letters]
        if name == "price":
            return [self.price_at(self.where(given[0]))]
        if name == "place":
            here = self.where(given[0])
            return [here[0], here[1], self.stacks[here].index(given[0])]
        if name in ("order", "stack", "closed"):
            told = {"order": self.acting(), "stack": self.stacks.get(given), "closed": self.closed_ones}[name]
            return [len(told)] + told
        if name == "ended":
            return [int(self.is_ended)]
        return self.tell_more(name, given)

    def tell_more(self, name, given):
        if name == "reach":
            return list(self.goal(given[:2], given[2:]))
        if name == "same":
            return [int(all(self.goal(here, given[0]) == self.goal(here, given[1]) for here in self.cells))]
        if name == "steps":
            return self.least(given[:2], given[2:])
        if name == "worth":
            return [sum(self.price_at(self.where(company)) * given[company - 1] for company in self.acting())]
        if name == "first":
            return [int(self.acting().index(given[0]) < self.acting().index(given[1]))]
        return [len(self.rows), len(self.rows[0]), len(self.cells), len(self.acting()), self.kept]

    def least(self, start, goal):
        counts = {start: 0}
        spreading = True
        while spreading:
            spreading = False
            for here in list(counts):
                for move in (1, 2, 3, 4):
                    after = self.next_cell(here, move)
                    if counts.get(after, FAR) > counts[here] + 1:
                        counts[after] = counts[here] + 1
                        spreading = True
        return [1, counts[goal]] if goal in counts else [0]


def some_board(chance):
    lengths = sorted([chance.randint(1, 6) for k in range(chance.randint(1, 5))], reverse=True)
    closing = ("c", "ce", "cf") if chance.random() < 0.7 else ()
    letters = ("", "", "b", "b", "b", "bf", "be", "e", "f") + closing
    # Rows fall by 0 to 2 steps of 10, so that cells of one price stand beside and above one another.
    fall = [10 * chance.randint(0, 2) for length in lengths]
    return [[str(200 + 10 * k - sum(fall[:r])) + chance.choice(letters) for k in range(lengths[r])]
            for r in range(len(lengths))]


def some_numbers(chance, wrong):
    size_of_list = chance.choice((0, 1, 1, 2, 3, 4, 5, 8, 20, 60))
    if wrong:
        size_of_list = chance.choice((0, 1, 2, 7, 9, 61, 70))
    numbers = [chance.randint(1, 4) for k in range(size_of_list)]
    if wrong and numbers:
        numbers[chance.randrange(len(numbers))] = chance.choice((0, 5, -1, FAR, -FAR, 1))
    return tuple(numbers)


def some_company(chance, model, wrong):
    if wrong:
        return chance.choice((0, 9, -1, FAR, -FAR))
    # Mostly one that has a marker, for little can be asked of the others.
    acting = model.acting()
    return chance.choice(acting) if acting and chance.random() < 0.8 else chance.randint(1, 8)


def some_place(chance, model, wrong):
    if wrong:
        return chance.choice(((-1, 0), (0, -1), (12, 0), (0, 20), (FAR, 0), (0, -FAR), (4, 5)))
    return chance.choice(list(model.cells))


def some_change(chance, model, wrong):
    """The name of a call, what is given to it, and the call as it is laid into the list."""
    company = some_company(chance, model, wrong and chance.random() < 0.3)
    fresh = chance.randint(1, 8)
    here = some_place(chance, model, wrong and chance.random() < 0.3)
    row = some_numbers(chance, wrong)
    number = chance.choice((0, 11, -1, FAR, -FAR)) if wrong else chance.choice((1, 1, 2, 3, 10))
    payment = chance.choice((1000000001, -1, FAR, -FAR) if wrong else (0, 1, 150, 180, 200, 210, 220, 1000000000))
    companies = chance.sample(model.acting(), chance.randint(0, len(model.acting())))
    companies += chance.choice(([company], [company, company], companies, [fresh])) if wrong else []
    return chance.choice((
        ("begin", (fresh, *here), begin(fresh, *here)), ("begin", (company, *here), begin(company, *here)),
        ("sell", (company, number), sell(company, number)), ("pay", (company, payment), pay(company, payment)),
        ("pay", (company, payment), pay(company, payment)), ("soldout", tuple(companies), soldout(*companies)),
        ("moves", (company, *row), moves(company, *row)),
    ))


def some_asking(chance, model, wrong):
    company = some_company(chance, model, wrong)
    other = some_company(chance, model, wrong and chance.random() < 0.5)
    here = some_place(chance, model, wrong and chance.random() < 0.5)
    there = some_place(chance, model, wrong and chance.random() < 0.5)
    row = some_numbers(chance, wrong)
    two = chance.choice((row, tuple(sorted(row)), row + (1,), some_numbers(chance, False)))
    shares = tuple(chance.choice((0, 1, 7, 1000000)) for k in range(8))
    if wrong:
        shares = chance.choice((shares[1:], shares + (1,), shares[1:] + (1000001,), (-1,) + shares[1:]))
    return chance.choice((
        ("print", (), print_board()), ("cell", here, cell(*here)), ("price", (company,), price(company)),
        ("place", (company,), place(company)), ("order", (), order()), ("stack", here, stack(*here)),
        ("closed", (), closed()), ("ended", (), ended()), ("reach", here + row, reach(*here, *row)),
        ("same", (row, two), same(row, two)), ("steps", here + there, steps(*here, *there)),
        ("worth", shares, worth(*shares)), ("first", (company, other), first(company, other)), ("size", (), size()),
    ))


def some_call(chance, model, changes, undos):
    wrong = chance.random() < 0.1
    drawn = chance.random()
    if drawn < changes:
        return some_change(chance, model, wrong)
    if drawn < changes + undos:
        return ("undo", (), undo())
    return some_asking(chance, model, wrong)


class TestModel(unittest.TestCase):
    def check_list(self, seed, loads, changes, undos):
        chance = random.Random(seed)
        model = Model()
        calls = []
        expected = []
        for k in range(200):
            if k in loads:
                rows = some_board(chance)
                call = load("".join(" ".join(row) + "\n" for row in rows))
                answer = model.lay(rows)
            else:
                name, given, call = some_call(chance, model, changes, undos)
                answer = model.answer(name, given)
            calls += call
            expected.append(answer)
        self.assertLessEqual(len(calls), 17000)
        self.assertEqual(part(answers(calls)), expected, seed)

    def test_changes_and_askings(self):
        for seed in range(150):
            self.check_list(seed, (0, 60, 130), 0.4, 0.05)

    def test_more_than_fifty_changes(self):
        for seed in range(60):
            self.check_list(seed, (0,), 0.7, 0.1)

    def test_many_taken_back(self):
        for seed in range(60):
            self.check_list(seed, (0, 100), 0.4, 0.3)


if __name__ == "__main__":
    unittest.main()
