"""load, print and cell: the text of a board, its limits, and the board printed."""

import unittest

from tests.helper import FAR, ask, begin, cell, counted, last, load, order, place, price, print_board


class TestLoad(unittest.TestCase):
    def check(self, text, answer):
        self.assertEqual(last(load(text)), [answer])

    def check_board(self, text, printed):
        answered = ask(load(text), print_board())
        self.assertEqual(answered, [[printed.count("\n")], counted(printed)])

    def check_wrong(self, text, line):
        # A refused load leaves the board as it was.
        answered = ask(load("7 8e\n5\n"), load(text), print_board())
        self.assertEqual(answered, [[2], [-100 - line], counted("7 8e\n5\n")])

    def test_rows(self):
        self.check("76 82 90b 100\n70 76 82\n60cf 65\n", 3)
        self.check_board("76 82 90b 100\n70 76 82\n60cf 65\n", "76 82 90b 100\n70 76 82\n60cf 65\n")

    def test_last_line_feed_may_lack(self):
        self.check_board("10 20\n5", "10 20\n5\n")
        self.check_board("10", "10\n")
        self.check_wrong("10\n20", 2)

    def test_blanks(self):
        self.check_board("   10    20b   \n  5\n", "10 20b\n5\n")

    def test_lines_passed_over(self):
        self.check_board("# a board\n\n10 20\n   \n  #9 9 9\n#\n5 15\n\n", "10 20\n5 15\n")

    def test_lines_passed_over_are_counted(self):
        self.check_wrong("# one\n\n10 20\n   \n20\n", 5)
        self.check_wrong("\n\nx\ny\n", 3)

    def test_hash_behind_the_first_word_is_no_remark(self):
        self.check_wrong("10 #20\n", 1)
        self.check_wrong("10#\n", 1)

    def test_without_rows(self):
        self.check_wrong("", 1)
        self.check_wrong("\n", 2)
        self.check_wrong("\n\n", 3)
        self.check_wrong("#", 2)
        self.check_wrong("# none\n", 2)
        self.check_wrong("# none\n  ", 3)
        self.check_wrong("# none\n\n   \n#\n", 5)

    def test_without_rows_but_with_a_wrong_line(self):
        self.check_wrong("#\n\t\n#\n", 2)

    def test_bytes(self):
        for byte in list(range(0, 10)) + list(range(11, 32)) + list(range(127, 256)):
            self.check_wrong(b"10\n5" + bytes([byte]) + b"\n", 2)
            self.check_wrong(b"10\n# " + bytes([byte]) + b"\n", 2)
            self.check_wrong(bytes([byte]), 1)

    def test_every_plain_byte_may_stand_in_a_remark(self):
        self.check(b"#" + bytes(range(32, 127)) + b"\n10\n", 1)

    def test_plain_bytes_that_are_no_cell(self):
        for byte in range(32, 127):
            word = bytes([byte])
            if word not in b" #123456789":
                self.check_wrong(word + b"\n", 1)
            if word not in b" 0123456789bcef":
                self.check_wrong(b"10" + word + b"\n", 1)

    def test_prices(self):
        self.check_board("1 10000\n", "1 10000\n")
        self.check_board("9999\n", "9999\n")
        for word in ("0", "10001", "10010", "11000", "20000", "99999", "100000", "1" * 30, "9" * 3000):
            self.check_wrong(word + "\n", 1)

    def test_zeros_in_front(self):
        for word in ("00", "01", "010", "0100b", "00001", "000000000001", "010000"):
            self.check_wrong(word + "\n", 1)

    def test_words_that_are_no_cell(self):
        for word in ("b", "x", "-5", "+5", "5.0", "1,000", "b10", "10b5", "10B", "10a", "10d", "10g", "1_0", "10bb5"):
            self.check_wrong(word + "\n", 1)
            self.check_wrong("2000 3000\n1 " + word + "\n", 2)

    def test_letters(self):
        good = ("", "b", "c", "e", "f", "be", "bf", "ce", "cf", "ef", "bef", "cef")
        for letters in good:
            self.check_board("10" + letters + "\n", "10" + letters + "\n")

    def test_wrong_letters(self):
        wrong = ("eb", "fe", "fb", "ec", "fc", "bfe", "ebf", "fec", "bb", "cc", "ee", "ff", "bbe", "bee", "beff", "beb")
        for letters in wrong + ("bc", "cb", "bce", "bcf", "bcef"):
            self.check_wrong("10" + letters + "\n", 1)

    def test_twelve_and_thirteen_rows(self):
        self.check_board("10\n" * 12, "10\n" * 12)
        self.check_wrong("10\n" * 13, 13)
        self.check_wrong("#\n" + "10\n" * 14, 14)
        self.check("10\n" * 12 + "\n# no row\n", 12)

    def test_a_thirteenth_row_behind_lines_passed_over(self):
        self.check_wrong("10\n" * 12 + "\n# no row\n5\n", 15)

    def test_twenty_and_twenty_one_cells(self):
        twenty = " ".join([str(k) for k in range(1, 21)]) + "\n"
        self.check_board(twenty * 2, twenty * 2)
        self.check_wrong(twenty[:-1] + " 21\n", 1)
        self.check_wrong(" ".join([str(k) for k in range(1, 500)]) + "\n", 1)

    def test_a_row_longer_than_the_one_above(self):
        self.check("10 20\n5 15\n", 2)
        self.check_wrong("10 20\n5 15 16\n", 2)
        self.check_wrong("10 20 30\n5 15\n5 15 16\n", 3)

    def test_a_cell_not_dearer_than_the_one_to_its_left(self):
        self.check("10 11\n", 1)
        self.check_wrong("10 10\n", 1)
        self.check_wrong("10 9\n", 1)
        self.check_wrong("10 20 30\n5 15 15\n", 2)
        self.check_wrong("10 20 30\n5 4 15\n", 2)

    def test_prices_are_compared_as_numbers(self):
        self.check("9 10\n", 1)
        self.check_wrong("10 9\n", 1)

    def test_a_cell_dearer_than_the_one_above(self):
        self.check("10 20\n10 20\n", 2)
        self.check_wrong("10 20\n11 20\n", 2)
        self.check_wrong("10 20\n10 21\n", 2)
        self.check_wrong("10 20\n9 19\n9 20\n", 3)

    def test_a_row_is_held_against_the_one_above_alone(self):
        self.check_wrong("10 20\n5\n4 15\n", 3)

    def test_the_first_wrong_line_is_told(self):
        self.check_wrong("10 20\n30\nx\n0\n", 2)
        self.check_wrong("10 20\n5 6 7\n5 5\n", 2)

    def test_4000_and_4001_bytes(self):
        for size, answer in ((3999, 1), (4000, 1), (4001, -2), (5000, -2)):
            self.check("10\n#" + "." * (size - 4), answer)

    def test_too_long_is_nearer_to_0_than_a_wrong_line(self):
        self.check("x" * 4000, -101)
        self.check("x" * 4001, -2)
        self.check("\n" * 3999, -4100)
        self.check("\n" * 4000, -4101)
        self.check("\n" * 4001, -2)

    def test_too_long_changes_nothing(self):
        answered = ask(load("7 8b\n"), begin(3, 0, 1), load("9\n" + " " * 4000), print_board(), order())
        self.assertEqual(answered[2:], [[-2], counted("7 8b\n"), [1, 3]])

    def test_load_takes_the_markers_away(self):
        answered = ask(begin(1, 0, 0), load("7 8b\n"), order(), price(1), begin(1, 0, 1), place(1))
        self.assertEqual(answered, [[100], [1], [0], [-1], [8], [0, 1, 0]])

    def test_a_refused_load_leaves_the_markers(self):
        answered = ask(begin(1, 0, 0), load("x\n"), order(), price(1))
        self.assertEqual(answered, [[100], [-101], [1, 1], [100]])


class TestPrint(unittest.TestCase):
    def test_at_the_beginning(self):
        self.assertEqual(last(print_board()), counted("100b\n"))

    def test_one_blank_and_every_line_ended(self):
        answered = last(load("  1b   20cef\n#\n1   3bef"), print_board())
        self.assertEqual(answered, counted("1b 20cef\n1 3bef\n"))

    def test_print_changes_nothing(self):
        answered = ask(begin(2, 0, 0), print_board(), print_board(), order())
        self.assertEqual(answered, [[100], counted("100b\n"), counted("100b\n"), [1, 2]])

    def test_the_greatest_board(self):
        row = " ".join([f"{k}bef" for k in range(9981, 10001)]) + "\n"
        text = row * 12
        self.assertEqual(ask(load(text), print_board()), [[12], counted(text)])


class TestCell(unittest.TestCase):
    def test_at_the_beginning(self):
        self.assertEqual(last(cell(0, 0)), [100, 1, 98])

    def test_price_and_letters(self):
        board = load("10 20b 30cef\n9f 19e\n")
        answered = ask(board, cell(0, 0), cell(0, 1), cell(0, 2), cell(1, 0), cell(1, 1))[1:]
        self.assertEqual(answered, [[10, 0], [20, 1, 98], [30, 3, 99, 101, 102], [9, 1, 102], [19, 1, 101]])

    def test_no_such_cell(self):
        board = load("10 20b 30\n9f 19e\n")
        wrong = ((-1, 0), (0, -1), (-1, -1), (2, 0), (0, 3), (1, 2), (-2, 0), (0, -3), (FAR, 0), (0, FAR))
        for row, column in wrong + ((-FAR, 0), (0, -FAR), (FAR, FAR), (-FAR, -FAR), (FAR, -FAR)):
            self.assertEqual(last(board, cell(row, column)), [-1])


if __name__ == "__main__":
    unittest.main()
