"""The text of a board: read into rows of cells, and printed from them."""

from priceboard.grid import BEGIN, CLOSE, LETTERS

LINE_FEED = 10
BLANK = 32
LAST_SIGN = 126
HASH = 35
ZERO = 48
NINE = 57

MOST_ROWS = 12
MOST_CELLS = 20
MOST_PRICE = 10000
MOST_DIGITS = 5


class Reading:
    def __init__(self):
        self.rows = []
        # The number of the first wrong line, 0 if no line is wrong.
        self.wrong = 0


def parted(signs, mark):
    pieces = [[]]
    for sign in signs:
        if sign == mark:
            pieces.append([])
        else:
            pieces[-1].append(sign)
    return pieces


def lines_of(text):
    lines = parted(text, LINE_FEED)
    # Behind the last line feed nothing is no line, while something is one that lacks its line feed.
    if not lines[-1]:
        lines.pop()
    return lines


def words_of(line):
    return [piece for piece in parted(line, BLANK) if piece]


def read_price(digits):
    # 0 stands for no price. The length is asked first so that no number grows with the text.
    if not 1 <= len(digits) <= MOST_DIGITS or digits[0] == ZERO:
        return 0
    price = 0
    for digit in digits:
        price = price * 10 + digit - ZERO
    return price if price <= MOST_PRICE else 0


def are_letters(signs):
    if BEGIN in signs and CLOSE in signs:
        return False
    # Only letters that are known, in their order and once each, come out of this the same.
    return signs == tuple([letter for letter in LETTERS if letter in signs])


def read_cell(word):
    count = 0
    while count < len(word) and ZERO <= word[count] <= NINE:
        count += 1
    price = read_price(word[:count])
    letters = tuple(word[count:])
    if price == 0 or not are_letters(letters):
        return None
    return (price, letters)


def rises(row):
    return all([row[k - 1][0] < row[k][0] for k in range(1, len(row))])


def fits_under(row, above):
    return len(row) <= len(above) and all([row[k][0] <= above[k][0] for k in range(len(row))])


def read_row(words, rows):
    # None stands for a wrong row: the caller needs no reason, only that the line is wrong.
    if len(rows) == MOST_ROWS or len(words) > MOST_CELLS:
        return None
    row = [read_cell(word) for word in words]
    if None in row or not rises(row):
        return None
    if rows and not fits_under(row, rows[-1]):
        return None
    return row


def is_plain(line):
    return all([BLANK <= sign <= LAST_SIGN for sign in line])


def take_line(rows, line):
    # The signs are asked ahead of the words: a remark with a sign that is not plain is wrong too.
    if not is_plain(line):
        return False
    words = words_of(line)
    if not words or words[0][0] == HASH:
        return True
    row = read_row(words, rows)
    if row is None:
        return False
    rows.append(row)
    return True


def read_board(text):
    reading = Reading()
    lines = lines_of(text)
    for k in range(len(lines)):
        if not take_line(reading.rows, lines[k]):
            reading.wrong = k + 1
            return reading
    if not reading.rows:
        reading.wrong = len(lines) + 1
    return reading


def printed_cell(cell):
    return [ord(digit) for digit in str(cell[0])] + list(cell[1])


def printed_board(rows):
    signs = []
    for row in rows:
        for k in range(len(row)):
            if k > 0:
                signs.append(BLANK)
            signs.extend(printed_cell(row[k]))
        signs.append(LINE_FEED)
    return signs
