"""Lines and pages."""

import unittest

from paperspool.listing import put_line
from tests.helper import ask, begin, close, last, line, open_, output_of, spool_after, start, turn, words


def pages(m, *lines):
    """The pages of lines, each a code's sign and its text."""
    calls = [begin(m=m), open_()] + [line(1, one[0], one[1:]) for one in lines]
    spool = spool_after(*calls)
    result = [words(page) for page in spool.outputs[1].pages]
    assert last(*calls, close()) == [len(result)]
    return result


class FirstLine(unittest.TestCase):
    def test_each_code(self):
        self.assertEqual(pages(60, " A"), [["A"]])
        self.assertEqual(pages(60, "0A"), [["", "A"]])
        self.assertEqual(pages(60, "-A"), [["", "", "A"]])
        self.assertEqual(pages(60, "+A"), [["A"]])
        self.assertEqual(pages(60, "1A"), [["A"]])

    def test_each_code_on_a_page_of_one_row(self):
        for code in " 0-+1":
            self.assertEqual(pages(1, code + "A"), [["A"]], code)

    def test_each_code_on_a_page_of_two_rows(self):
        self.assertEqual(pages(2, " A"), [["A"]])
        self.assertEqual(pages(2, "0A"), [["", "A"]])
        self.assertEqual(pages(2, "-A"), [["A"]])
        self.assertEqual(pages(2, "+A"), [["A"]])
        self.assertEqual(pages(2, "1A"), [["A"]])

    def test_each_code_on_a_page_of_three_rows(self):
        self.assertEqual(pages(3, " A"), [["A"]])
        self.assertEqual(pages(3, "0A"), [["", "A"]])
        self.assertEqual(pages(3, "-A"), [["", "", "A"]])
        self.assertEqual(pages(3, "+A"), [["A"]])
        self.assertEqual(pages(3, "1A"), [["A"]])


class OtherLines(unittest.TestCase):
    def test_each_code(self):
        self.assertEqual(pages(60, " A", " B"), [["A", "B"]])
        self.assertEqual(pages(60, " A", "0B"), [["A", "", "B"]])
        self.assertEqual(pages(60, " A", "-B"), [["A", "", "", "B"]])
        self.assertEqual(pages(60, " A", "+ B"), [["AB"]])
        self.assertEqual(pages(60, " A", "1B"), [["A"], ["B"]])

    def test_a_page_of_one_row(self):
        for code in " 0-1":
            self.assertEqual(pages(1, " A", code + "B", code + "C"), [["A"], ["B"], ["C"]], code)
        self.assertEqual(pages(1, " A", "+ B", " C"), [["AB"], ["C"]])

    def test_a_page_of_two_rows(self):
        self.assertEqual(pages(2, " A", " B", " C"), [["A", "B"], ["C"]])
        self.assertEqual(pages(2, " A", "0B", " C"), [["A"], ["B", "C"]])
        self.assertEqual(pages(2, " A", "-B", " C"), [["A"], ["B", "C"]])
        self.assertEqual(pages(2, " A", "1B", " C"), [["A"], ["B", "C"]])

    def test_a_page_of_three_rows(self):
        self.assertEqual(pages(3, " A", " B", " C", " D"), [["A", "B", "C"], ["D"]])
        self.assertEqual(pages(3, " A", "0B", "0C"), [["A", "", "B"], ["C"]])
        self.assertEqual(pages(3, " A", " B", "0C"), [["A", "B"], ["C"]])
        self.assertEqual(pages(3, " A", "-B"), [["A"], ["B"]])

    def test_each_page_is_filled_anew(self):
        self.assertEqual(pages(3, " A", " B", " C", " D", " E"), [["A", "B", "C"], ["D", "E"]])
        self.assertEqual(pages(3, " A", "1B", " C", " D", " E"), [["A"], ["B", "C", "D"], ["E"]])
        self.assertEqual(pages(2, " A", " B", " C", " D", "+ E", "0F", " G"), [["A", "B"], ["C", "DE"], ["F", "G"]])

    def test_past_the_last_row_every_code_goes_to_row_1(self):
        """The first line of a listing alone goes down on its page."""
        for code in " 0-1":
            self.assertEqual(pages(3, "-A", code + "B"), [["", "", "A"], ["B"]], code)

    def test_over_the_last_row_of_a_page(self):
        self.assertEqual(pages(2, " A", " B", "+ C", " D", "+ E"), [["A", "BC"], ["DE"]])

    def test_the_house_begins_with_60_rows(self):
        calls = [open_()] + [line() for row in range(60)]
        self.assertEqual(last(*calls, close()), [1])
        self.assertEqual(last(*calls, line(), close()), [2])

    def test_100_rows(self):
        calls = [begin(m=100), open_()] + [line() for row in range(100)]
        self.assertEqual(last(*calls, close()), [1])

    def test_each_row_down_to_the_last(self):
        """Beside the page's end: one more row fits, or doesn't."""
        for code, down in ((" ", 1), ("0", 2), ("-", 3)):
            for m in range(down + 1, 8):
                before = [" A" for row in range(m - down)]
                self.assertEqual(len(pages(m, *before, code + "B")), 1, (code, m))
                self.assertEqual(len(pages(m, " A", *before, code + "B")), 2, (code, m))


class Rows(unittest.TestCase):
    def test_a_page_ends_with_the_last_row_that_has_a_line(self):
        self.assertEqual(pages(60, " A", " "), [["A", ""]])
        self.assertEqual(pages(60, "0"), [["", ""]])
        self.assertEqual(pages(60, "1", "1"), [[""], [""]])

    def test_blanks_at_the_end_are_left_out(self):
        self.assertEqual(pages(60, " A  "), [["A"]])
        self.assertEqual(pages(60, "  A B "), [[" A B"]])
        self.assertEqual(pages(60, "    "), [[""]])
        self.assertEqual(pages(60, " A", "+    "), [["A"]])

    def test_no_lines_no_pages(self):
        self.assertEqual(pages(60), [])
        self.assertEqual(ask(open_(), close()), [[1], [0]])


class PutOver(unittest.TestCase):
    def test_where_one_has_ended(self):
        self.assertEqual(pages(60, " AB", "+ABCD"), [["ABCD"]])
        self.assertEqual(pages(60, " ABCD", "+AB"), [["ABCD"]])
        self.assertEqual(pages(60, " A", "+   D"), [["A  D"]])
        self.assertEqual(pages(60, "    D", "+A"), [["A  D"]])
        self.assertEqual(pages(60, " ", "+AB"), [["AB"]])
        self.assertEqual(pages(60, " AB", "+"), [["AB"]])

    def test_blanks(self):
        self.assertEqual(pages(60, " A C", "+ B D"), [["ABCD"]])
        self.assertEqual(pages(60, " A  D", "+A  D"), [["A  D"]])

    def test_the_same_and_others(self):
        self.assertEqual(pages(60, " ABC", "+AXC"), [["A#C"]])
        self.assertEqual(pages(60, " A", "+B", "+A"), [["#"]])
        self.assertEqual(pages(60, " #", "+#"), [["#"]])
        self.assertEqual(pages(60, " A", "+B", "+ "), [["#"]])

    def test_several_over_one_row(self):
        self.assertEqual(pages(60, " A", "+ B", "+  C", " D"), [["ABC", "D"]])

    def test_over_goes_to_the_line_before_it(self):
        self.assertEqual(pages(60, " A", "0B", "+ C"), [["A", "", "BC"]])
        self.assertEqual(pages(60, "-A", "+ B"), [["", "", "AB"]])

    def test_the_text_of_an_earlier_line_stays_as_it_was_handed_in(self):
        first = [65, 32]
        second = [32, 66]
        found = []
        put_line(found, 32, first, 60)
        put_line(found, 43, second, 60)
        self.assertEqual(found, [[[65, 66]]])
        self.assertEqual((first, second), ([65, 32], [32, 66]))


class OnSheets(unittest.TestCase):
    def test_the_rows_of_a_page_are_those_of_its_sheet(self):
        spool = spool_after(
            begin(m=2), open_(), line(1, " ", "A "), line(1, "+", " B"), line(1, "0", "C"), close(),
            start(), turn(), turn(), turn(),
        )
        self.assertEqual([words(entry[4]) for entry in spool.writers[0].paper], [["AB"], ["C"]])

    def test_outputs_keep_their_lines_apart(self):
        spool = spool_after(open_(), open_(), line(1, " ", "A"), line(2, " ", "B"), line(1, " ", "C"))
        self.assertEqual([words(page) for page in spool.outputs[1].pages], [["A", "C"]])
        self.assertEqual([words(page) for page in spool.outputs[2].pages], [["B"]])

    def test_as_many_pages_as_lines_with_code_49(self):
        self.assertEqual(last(*output_of(7)), [7])


if __name__ == "__main__":
    unittest.main()
