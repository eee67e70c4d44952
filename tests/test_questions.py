"""The questions: pages, page, output, queue, writer, paper, sheet, clean."""

import unittest

from tests.helper import (
    GREATEST,
    LEAST,
    Refusals,
    ask,
    back,
    begin,
    change,
    close,
    copies,
    cut,
    go,
    hold,
    interrupt,
    last,
    letgo,
    line,
    mount,
    note,
    open_,
    output_of,
    parts,
    picture,
    power,
    purge,
    row,
    serve,
    spool_after,
    start,
    stop,
    tell_clean,
    tell_output,
    tell_page,
    tell_pages,
    tell_paper,
    tell_queue,
    tell_sheet,
    tell_writer,
    told,
    turn,
    turns,
    words,
)

LONG = output_of(20, copies=20) + [start(), turn()]


class QuestionCase(Refusals, unittest.TestCase):
    def check_output(self, make):
        """-1 outside 1 to 999999; -4 where there's none of that number."""
        for value in (0, 1000000, -1, LEAST, GREATEST):
            self.refused(-1, output_of(1), make(output=value))
        for value in (2, 999999):
            self.refused(-4, output_of(1), make(output=value))
        self.refused(-4, output_of(1) + [purge()], make(output=1))
        self.refused(-4, [], make(output=1))

    def check_writer(self, make):
        """A writer may be off: no -3."""
        for before in ([], [start()], output_of(1) + [start(), turn(), turn()]):
            self.check_range(before, make, "writer", 1, 8)

    def unchanged(self, before, call):
        spool = spool_after(*before)
        seen = picture(spool)
        first = go(spool, call)
        self.assertEqual(go(spool, call), first)
        self.assertEqual(picture(spool), seen)


class Pages(QuestionCase):
    def test_output(self):
        self.check_output(tell_pages)

    def test_closed_or_not(self):
        for pages in (0, 1, 2, 7):
            calls = output_of(pages)
            self.assertEqual(last(*calls[:-1], tell_pages()), [pages])
            self.assertEqual(last(*calls, tell_pages()), [pages])

    def test_line_by_line(self):
        calls = [begin(m=2), open_()]
        for code, pages in ((" ", 1), (" ", 1), ("+", 1), (" ", 2), ("0", 3), ("1", 4), ("-", 5), ("+", 5)):
            calls.append(line(1, code))
            self.assertEqual(last(*calls, tell_pages()), [pages])

    def test_each_output_has_its_own(self):
        self.assertEqual(ask(*output_of(2), *output_of(3, 2), tell_pages(1), tell_pages(2))[-2:], [[2], [3]])

    def test_in_hand_held_and_done(self):
        self.accepted([3], output_of(3) + [start(), turn()], tell_pages())
        self.accepted([3], output_of(3, held=1), tell_pages())
        self.accepted([3], output_of(3) + [start(), *turns(4)], tell_pages())

    def test_it_changes_nothing(self):
        self.unchanged(output_of(3), tell_pages())


class Page(QuestionCase):
    def texts(self, *calls):
        count, rows = told(*calls)
        self.assertEqual(count, len(rows))
        return words(rows)

    def test_output(self):
        self.check_output(tell_page)

    def test_p_at_its_edges(self):
        for pages in (1, 2, 5):
            before = output_of(pages)
            self.check_range(before, tell_page, "p", 1, pages)
            for p in range(1, pages + 1):
                self.assertEqual(self.texts(*before, tell_page(1, p)), [f"PAGE {p}"])

    def test_outputs_without_lines(self):
        for before in ([open_()], output_of(0)):
            for p in (0, 1, 2, -1, LEAST, GREATEST):
                self.refused(-1, before, tell_page(1, p))

    def test_order_of_refusals(self):
        self.refused(-1, output_of(1), tell_page(0, 0))
        self.refused(-4, output_of(1), tell_page(2, 0))
        self.refused(-4, output_of(1), tell_page(2, LEAST))
        self.refused(-1, output_of(1), tell_page(1, 0))

    def test_rows_as_they_stand(self):
        before = [open_(), line(1, " ", "AB"), line(1, "0", "C")]
        self.assertEqual(last(*before, tell_page()), [3, 2, 65, 66, 0, 1, 67])

    def test_empty_rows(self):
        self.assertEqual(self.texts(open_(), line(1, "-", "A"), line(1, " ", ""), tell_page()), ["", "", "A", ""])
        self.assertEqual(last(open_(), line(1, " ", ""), tell_page()), [1, 0])
        self.assertEqual(last(open_(), line(1, "-", "  "), tell_page()), [3, 0, 0, 0])

    def test_rows_put_over(self):
        before = [open_(), line(1, " ", "ABC D"), line(1, "+", "AXC E F"), tell_page()]
        self.assertEqual(self.texts(*before), ["A#C # F"])
        before = [begin(m=1), open_(), line(1, " ", "A"), line(1, "+", " B"), line(1, " ", "C"), line(1, "+", "D")]
        self.assertEqual(self.texts(*before, tell_page(1, 1)), ["AB"])
        self.assertEqual(self.texts(*before, tell_page(1, 2)), ["#"])

    def test_blanks_at_the_end(self):
        before = [open_(), line(1, " ", "A  "), line(1, " ", "  B "), line(1, "+", "      ")]
        self.assertEqual(self.texts(*before, tell_page()), ["A", "  B"])
        self.assertEqual(self.texts(open_(), line(1, " ", "A" * 132), tell_page()), ["A" * 132])

    def test_full_pages(self):
        before = [begin(m=3), open_()] + [line(1, " ", f"ROW {number}") for number in range(7)]
        self.assertEqual([self.texts(*before, tell_page(1, p)) for p in (1, 2, 3)],
                         [["ROW 0", "ROW 1", "ROW 2"], ["ROW 3", "ROW 4", "ROW 5"], ["ROW 6"]])
        before = [begin(m=100), open_()] + [line(1, " ", f"ROW {number}") for number in range(100)]
        self.assertEqual(self.texts(*before, tell_page()), [f"ROW {number}" for number in range(100)])

    def test_it_changes_nothing(self):
        self.unchanged(output_of(3), tell_page(1, 2))


class Output(QuestionCase):
    def row(self, *calls, output=1):
        """The eleven numbers: class, form, priority, copies, held, closed, done, in hand, lines, copy, step."""
        answer, rows = told(*calls, tell_output(output))
        self.assertEqual((answer, len(rows), len(rows[1])), (0, 2, 11))
        return rows[1]

    def test_output(self):
        self.check_output(tell_output)

    def test_as_it_stands(self):
        self.assertEqual(last(open_(2, 3, 4, 5, 1, "AB9"), tell_output()),
                         [0, 3, 65, 66, 57, 11, 2, 3, 5, 4, 1, 0, 0, 0, 0, 1, 0])

    def test_names(self):
        for name in ("A", "Z9", "ABCDEFGH"):
            self.assertEqual(words(told(open_(name=name), tell_output())[1][:1]), [name])

    def test_ends_of_all_ranges(self):
        self.assertEqual(self.row(open_(1, 1, 1, 0, 0)), [1, 1, 0, 1, 0, 0, 0, 0, 0, 1, 0])
        self.assertEqual(self.row(open_(36, 99, 255, 15, 1)), [36, 99, 15, 255, 1, 0, 0, 0, 0, 1, 0])

    def test_each_change(self):
        calls = [open_(2, 3, 4, 5, 0, "A")]
        self.assertEqual(self.row(*calls), [2, 3, 5, 4, 0, 0, 0, 0, 0, 1, 0])
        for call, due in (
            (line(), [2, 3, 5, 4, 0, 0, 0, 0, 1, 1, 0]),
            (line(1, "1"), [2, 3, 5, 4, 0, 0, 0, 0, 2, 1, 0]),
            (hold(), [2, 3, 5, 4, 1, 0, 0, 0, 2, 1, 0]),
            (close(), [2, 3, 5, 4, 1, 1, 0, 0, 2, 1, 0]),
            (letgo(), [2, 3, 5, 4, 0, 1, 0, 0, 2, 1, 0]),
            (change(1, 6, 7, 8), [6, 7, 8, 4, 0, 1, 0, 0, 2, 1, 0]),
            (copies(1, 2), [6, 7, 8, 2, 0, 1, 0, 0, 2, 1, 0]),
            (start(1, 7, 0, 9, [6]), [6, 7, 8, 2, 0, 1, 0, 0, 2, 1, 0]),
            (turn(), [6, 7, 8, 2, 0, 1, 0, 1, 2, 1, 0]),
            (turn(), [6, 7, 8, 2, 0, 1, 0, 1, 2, 1, 0]),
            (note(), [6, 7, 8, 2, 0, 1, 0, 1, 2, 1, 0]),
            (power(), [6, 7, 8, 2, 0, 1, 0, 1, 2, 1, 0]),
            (cut(), [6, 7, 8, 2, 0, 1, 0, 1, 2, 1, 0]),
            (interrupt(), [6, 7, 8, 2, 0, 1, 0, 0, 2, 1, 2]),
            (turn(), [6, 7, 8, 2, 0, 1, 0, 1, 2, 1, 2]),
            (turn(), [6, 7, 8, 2, 0, 1, 0, 1, 2, 1, 2]),
            (turn(), [6, 7, 8, 2, 0, 1, 0, 1, 2, 1, 2]),
            (turn(), [6, 7, 8, 2, 0, 1, 1, 0, 2, 3, 0]),
            (hold(), [6, 7, 8, 2, 1, 1, 1, 0, 2, 3, 0]),
            (copies(1, 3), [6, 7, 8, 3, 1, 1, 0, 0, 2, 3, 0]),
            (letgo(), [6, 7, 8, 3, 0, 1, 0, 0, 2, 3, 0]),
            (turn(), [6, 7, 8, 3, 0, 1, 0, 1, 2, 3, 0]),
            (stop(), [6, 7, 8, 3, 0, 1, 0, 1, 2, 3, 0]),
            (interrupt(), [6, 7, 8, 3, 0, 1, 0, 0, 2, 3, 0]),
        ):
            calls.append(call)
            self.assertEqual(self.row(*calls), due, call)

    def test_its_own_place_not_a_writers(self):
        before = output_of(3, copies=2) + [start(), turn(), *turns(4)]
        self.assertEqual(self.row(*before)[6:], [0, 1, 3, 1, 0])
        self.assertEqual(told(*before, tell_writer())[1][2], [1, 2, 2, 0])

    def test_done_without_sheets(self):
        self.assertEqual(self.row(*output_of(0, copies=255), start(), turn())[6:], [1, 0, 0, 256, 0])

    def test_in_any_writers_hand(self):
        for writer in (1, 5, 8):
            before = output_of(1) + output_of(1, 2) + [start(writer), turn(writer)]
            self.assertEqual((self.row(*before)[7], self.row(*before, output=2)[7]), (1, 0))

    def test_done_by_fewer_copies(self):
        before = output_of(1, copies=5) + [start(), *turns(3), interrupt(), copies(1, 2)]
        self.assertEqual(self.row(*before), [1, 1, 0, 2, 0, 1, 1, 0, 1, 3, 0])

    def test_it_changes_nothing(self):
        self.unchanged(output_of(3) + [start(), turn()], tell_output())


class Queue(QuestionCase):
    def test_range(self):
        for before in ([], output_of(1)):
            self.check_range(before, tell_queue, "klass", 1, 36)

    def test_none(self):
        self.assertEqual(last(tell_queue()), [0, 0])
        self.assertEqual(last(*output_of(1), tell_queue(2)), [0, 0])

    def test_as_it_stands(self):
        self.assertEqual(last(*output_of(1), *output_of(0, 2), tell_queue()), [2, 2, 1, 2])

    def test_which_are_in_it(self):
        self.assertEqual(last(open_(), tell_queue()), [0, 0])
        self.assertEqual(last(*output_of(1, held=1), tell_queue()), [0, 0])
        self.assertEqual(last(*output_of(1), start(), turn(), tell_queue()), [0, 0])
        self.assertEqual(last(*output_of(1), start(), turn(), turn(), tell_queue()), [0, 0])
        self.assertEqual(last(*output_of(1), purge(), tell_queue()), [0, 0])
        self.assertEqual(last(*output_of(1, form=99), start(), tell_queue()), [1, 1, 1])

    def test_by_priority_then_by_number(self):
        calls = []
        for number, priority in enumerate((3, 15, 3, 0, 15, 0, 7), start=1):
            calls += output_of(0, number, priority=priority)
        self.assertEqual(last(*calls, tell_queue()), [7, 7, 2, 5, 7, 1, 3, 4, 6])
        self.assertEqual(last(*calls, change(6, 1, 1, 15), tell_queue()), [7, 7, 2, 5, 6, 7, 1, 3, 4])

    def test_not_by_closing(self):
        self.assertEqual(last(open_(), open_(), open_(), close(3), close(1), close(2), tell_queue()), [3, 3, 1, 2, 3])

    def test_of_that_class_alone(self):
        calls = output_of(0, klass=36) + output_of(0, 2) + output_of(0, 3, klass=36, priority=1)
        self.assertEqual(ask(*calls, tell_queue(36), tell_queue(1))[-2:], [[2, 2, 3, 1], [1, 1, 2]])
        self.assertEqual(ask(*calls, change(2, 36, 1, 0), tell_queue(36), tell_queue(1))[-2:],
                         [[3, 3, 3, 1, 2], [0, 0]])

    def test_each_change(self):
        calls = [open_(), line(), line(1, "1")] + output_of(1, 2)
        for call, due in (
            (close(), [1, 2]), (hold(), [2]), (letgo(), [1, 2]), (start(), [1, 2]), (turn(), [2]), (turn(), [2]),
            (power(), [2]), (interrupt(), [1, 2]), (change(2, 1, 1, 1), [2, 1]), (turn(), [1]), (turn(), [1]),
            (copies(2, 2), [2, 1]), (purge(1), [2]), (turn(), []), (stop(), []), (interrupt(), [2]),
            (copies(2, 1), []), (begin(), []),
        ):
            calls.append(call)
            self.assertEqual(last(*calls, tell_queue()), [len(due)] + row(due), call)

    def test_200(self):
        calls = [call for number in range(1, 201) for call in (open_(), close(number))]
        self.assertEqual(last(*calls, tell_queue()), [200, 200] + list(range(1, 201)))

    def test_it_changes_nothing(self):
        self.unchanged(output_of(1) + output_of(1, 2, priority=1), tell_queue())


class Writer(QuestionCase):
    def test_range(self):
        self.check_writer(tell_writer)

    def test_off(self):
        for writer in range(1, 9):
            self.assertEqual(last(tell_writer(writer)), [0, 0, 5, 0, 0, 0, 0, 0, 0])

    def test_as_it_stands(self):
        self.assertEqual(last(start(3, 5, 1, 7, [9, 4, 36]), tell_writer(3)), [1, 3, 9, 4, 36, 5, 5, 1, 7, 0, 0, 0])

    def test_ends_of_all_ranges(self):
        self.assertEqual(told(start(8, 99, 1, 1000, range(29, 37)), tell_writer(8)),
                         (1, [list(range(29, 37)), [99, 1, 1000, 0, 0], []]))
        self.assertEqual(told(start(1, 1, 0, 1, [1]), tell_writer(1)), (1, [[1], [1, 0, 1, 0, 0], []]))

    def test_each_change(self):
        calls = output_of(4, copies=2)
        for call, due in (
            (start(1, 7, 1, 5, [3, 1]), (1, [[3, 1], [7, 1, 5, 0, 0], []])),
            (serve(1, 0, 3, [2, 1]), (1, [[2, 1], [7, 0, 3, 0, 0], []])),
            (mount(1, 1), (1, [[2, 1], [1, 0, 3, 0, 0], []])),
            (turn(), (1, [[2, 1], [1, 0, 3, 0, 0], [1, 1, 1, 0]])),
            (turn(), (1, [[2, 1], [1, 0, 3, 0, 1], [1, 1, 2, 1]])),
            (turn(), (1, [[2, 1], [1, 0, 3, 0, 2], [1, 1, 3, 2]])),
            (turn(), (1, [[2, 1], [1, 0, 3, 0, 3], [1, 1, 4, 0]])),
            (back(1, 2), (1, [[2, 1], [1, 0, 3, 0, 4], [1, 1, 2, 0]])),
            (turn(), (1, [[2, 1], [1, 0, 3, 0, 5], [1, 1, 3, 1]])),
            (note(), (1, [[2, 1], [1, 0, 3, 0, 5], [1, 1, 3, 0]])),
            (turn(), (1, [[2, 1], [1, 0, 3, 0, 6], [1, 1, 4, 1]])),
            (power(), (1, [[2, 1], [1, 0, 3, 0, 7], [1, 1, 3, 0]])),
            (cut(), (1, [[2, 1], [1, 0, 3, 0, 9], [1, 1, 3, 0]])),
            (interrupt(), (1, [[2, 1], [1, 0, 3, 0, 9], []])),
            (turn(), (1, [[2, 1], [1, 0, 3, 0, 9], [1, 1, 3, 0]])),
            (turn(), (1, [[2, 1], [1, 0, 3, 0, 10], [1, 1, 4, 1]])),
            (turn(), (1, [[2, 1], [1, 0, 3, 0, 11], [1, 2, 1, 0]])),
            (turn(), (1, [[2, 1], [1, 0, 3, 0, 12], [1, 2, 2, 1]])),
            (stop(), (1, [[2, 1], [1, 0, 3, 1, 12], [1, 2, 2, 0]])),
            (turn(), (1, [[2, 1], [1, 0, 3, 1, 13], [1, 2, 3, 1]])),
            (turn(), (1, [[2, 1], [1, 0, 3, 1, 14], [1, 2, 4, 2]])),
            (turn(), (0, [[], [0, 0, 0, 0, 15], []])),
            (start(1, 2, 0, 1, [8]), (1, [[8], [2, 0, 1, 0, 15], []])),
            (stop(), (0, [[], [0, 0, 0, 0, 15], []])),
            (begin(), (0, [[], [0, 0, 0, 0, 0], []])),
        ):
            calls.append(call)
            self.assertEqual(told(*calls, tell_writer()), due, call)
            self.assertEqual(last(*calls, tell_writer(2)), [0, 0, 5, 0, 0, 0, 0, 0, 0])

    def test_a_place_at_a_header(self):
        before = output_of(1) + [start(separators=1), turn()]
        self.assertEqual(told(*before, tell_writer())[1][2], [1, 1, 0, 0])

    def test_it_changes_nothing(self):
        self.unchanged(output_of(1) + [start(), turn()], tell_writer())


class Spans(QuestionCase):
    """What paper and clean have in common."""

    def check_ranges(self, make):
        self.check_writer(make)
        for before in ([], LONG + turns(3)):
            self.check_range(before, make, "first", 1, 1000000)
            self.check_range(before, make, "most", 1, 100)
        self.refused(-1, [], make(0, 0, 0))

    def check_spans(self, make):
        """The paper has 250 sheets, and no mark."""
        spool = spool_after(*LONG, *turns(250))
        whole = [[k + 1, 1, k // 20 + 1, k % 20 + 1] for k in range(250)]
        for first in (1, 2, 100, 101, 150, 151, 152, 249, 250, 251, 252, 1000, 1000000):
            for most in (1, 2, 99, 100):
                due = whole[first - 1:first - 1 + most]
                self.assertEqual(parts(go(spool, make(1, first, most))[0]), (len(due), due), (first, most))

    def check_empty(self, make):
        for before in ([], [start()], output_of(1) + [start(), turn()]):
            self.assertEqual(last(*before, make()), [0])
            self.assertEqual(last(*before, make(1, 1000000, 100)), [0])


class Paper(Spans):
    def test_ranges(self):
        self.check_ranges(tell_paper)

    def test_spans(self):
        self.check_spans(tell_paper)

    def test_empty(self):
        self.check_empty(tell_paper)

    def test_as_it_stands(self):
        before = output_of(2) + [start(e=9), turn(), turn(), power(), turn()]
        self.assertEqual(last(*before, tell_paper()), [3, 4, 1, 1, 1, 1, 1, 0, 4, 1, 1, 1, 1])
        self.assertEqual(last(*before, tell_paper(1, 2, 1)), [1, 1, 0])
        self.assertEqual(last(*before, tell_paper(1, 2, 2)), [2, 1, 0, 4, 1, 1, 1, 1])

    def test_a_serial_output_copy_and_step(self):
        before = output_of(1, copies=2) + output_of(2, 2, priority=1) + [start(3, separators=1), *turns(11, 3)]
        self.assertEqual(told(*before, tell_paper(3)), (9, [
            [1, 2, 1, 0], [2, 2, 1, 1], [3, 2, 1, 2], [4, 2, 1, 3], [5, 1, 1, 0], [6, 1, 1, 1], [7, 1, 1, 2],
            [8, 1, 2, 0], [9, 1, 2, 1]]))

    def test_of_a_writer_that_is_off(self):
        before = output_of(1) + [start(), turn(), turn(), stop()]
        self.assertEqual(told(*before, tell_paper()), (1, [[1, 1, 1, 1]]))

    def test_sheets_of_a_purged_output(self):
        before = output_of(1) + [start(), turn(), turn(), purge()]
        self.assertEqual(told(*before, tell_paper()), (1, [[1, 1, 1, 1]]))

    def test_with_marks(self):
        """Marks are entries: from and most are among all of them."""
        before = LONG + [call for number in range(60) for call in (turn(), power())]
        due = [entry for k in range(50, 60) for entry in ([k + 1, 1, k // 20 + 1, k % 20 + 1], [k + 1])]
        self.assertEqual(told(*before, tell_paper(1, 101, 100)), (20, due))
        self.assertEqual(told(*before, tell_paper(1, 100, 1)), (1, [[50]]))

    def test_it_changes_nothing(self):
        self.unchanged(LONG + turns(3) + [power()], tell_paper())


class Clean(Spans):
    def test_ranges(self):
        self.check_ranges(tell_clean)

    def test_spans(self):
        self.check_spans(tell_clean)

    def test_empty(self):
        self.check_empty(tell_clean)
        self.assertEqual(last(*output_of(1), start(), turn(), power(), tell_clean()), [0])
        self.assertEqual(last(*output_of(1), start(), turn(), cut(), tell_clean()), [0])

    def test_as_it_stands(self):
        before = output_of(2) + [start(e=9), turn(), turn(), power(), turn()]
        self.assertEqual(last(*before, tell_clean()), [1, 4, 1, 1, 1, 1])

    def test_from_and_most_are_among_those_that_count(self):
        before = output_of(9) + [start(), turn(), *turns(2), cut(), cut(), turn(), cut(), *turns(2)]
        self.assertEqual(told(*before, tell_clean()), (5, [[k, 1, 1, k] for k in (1, 2, 3, 4, 5)]))
        self.assertEqual(told(*before, tell_clean(1, 3, 2)), (2, [[3, 1, 1, 3], [4, 1, 1, 4]]))
        self.assertEqual(told(*before, tell_clean(1, 5, 9)), (1, [[5, 1, 1, 5]]))
        self.assertEqual(told(*before, tell_clean(1, 6, 9)), (0, []))

    def test_more_than_100_with_marks(self):
        spool = spool_after(*LONG, *[call for number in range(125) for call in (turn(), cut())])
        whole = [[k + 1, 1, k // 20 + 1, k % 20 + 1] for k in range(125)]
        self.assertEqual(parts(go(spool, tell_clean(1, 1, 100))[0]), (100, whole[:100]))
        self.assertEqual(parts(go(spool, tell_clean(1, 101, 100))[0]), (25, whole[100:]))
        self.assertEqual(parts(go(spool, tell_clean(1, 126, 100))[0]), (0, []))
        self.assertEqual(parts(go(spool, tell_writer())[0])[1][1][4], 375)

    def test_of_a_writer_that_is_off(self):
        before = output_of(2) + [start(e=9), turn(), turn(), power(), turn(), stop(), interrupt()]
        self.assertEqual(told(*before, tell_clean()), (1, [[1, 1, 1, 1]]))

    def test_it_changes_nothing(self):
        self.unchanged(LONG + turns(3) + [power()], tell_clean())


class Sheet(QuestionCase):
    BEFORE = [open_(), open_(copies=2, name="PAY9"), line(2, "0", "HI "), close(2),
              start(4, separators=1), *turns(5, 4)]

    def texts(self, *calls):
        count, rows = told(*calls)
        self.assertEqual(count, len(rows))
        return words(rows)

    def test_ranges(self):
        self.check_writer(tell_sheet)
        for before in ([], self.BEFORE):
            self.check_range(before, tell_sheet, "k", 1, 1000000)

    def test_header_page_and_trailer(self):
        found = [self.texts(*self.BEFORE, tell_sheet(4, k)) for k in (1, 2, 3, 4)]
        self.assertEqual(found, [
            ["START PAY9", "OUTPUT 2", "COPY 1"], ["", "HI"], ["END PAY9", "OUTPUT 2", "COPY 1"],
            ["START PAY9", "OUTPUT 2", "COPY 2"]])

    def test_as_it_stands(self):
        self.assertEqual(last(*self.BEFORE, tell_sheet(4, 2)), [2, 0, 2, 72, 73])
        self.assertEqual(last(*self.BEFORE, tell_sheet(4, 1)),
                         [3, 10, 83, 84, 65, 82, 84, 32, 80, 65, 89, 57, 8, 79, 85, 84, 80, 85, 84, 32, 50,
                          6, 67, 79, 80, 89, 32, 49])

    def test_numbers_of_several_digits(self):
        before = [call for number in range(1, 12) for call in output_of(0, number, copies=255)]
        before += [purge(number) for number in range(1, 11)]
        spool = spool_after(*before, start(separators=1), turn(), *turns(510))
        self.assertEqual(words(parts(go(spool, tell_sheet(1, 509))[0])[1]), ["START A", "OUTPUT 11", "COPY 255"])
        self.assertEqual(words(parts(go(spool, tell_sheet(1, 510))[0])[1]), ["END A", "OUTPUT 11", "COPY 255"])

    def test_behind_the_end(self):
        self.refused(-4, [], tell_sheet())
        for k in (5, 6, 1000000):
            self.refused(-4, self.BEFORE, tell_sheet(4, k))
        self.refused(-4, self.BEFORE, tell_sheet(3, 1))

    def test_a_mark(self):
        before = self.BEFORE + [power(), turn(4)]
        self.refused(-6, before, tell_sheet(4, 5))
        self.assertEqual(self.texts(*before, tell_sheet(4, 6)), ["", "HI"])
        self.refused(-4, before, tell_sheet(4, 7))
        self.refused(-6, output_of(1) + [start(), turn(), power()], tell_sheet(1, 1))

    def test_one_that_does_not_count(self):
        before = output_of(2) + [start(), turn(), cut()]
        self.assertEqual(self.texts(*before, tell_sheet(1, 1)), ["PAGE 1"])

    def test_of_a_purged_output_and_of_a_writer_that_is_off(self):
        before = output_of(1) + [start(), turn(), turn(), stop(), purge()]
        self.assertEqual(self.texts(*before, tell_sheet(1, 1)), ["PAGE 1"])

    def test_a_sheet_of_empty_rows(self):
        before = [open_(), line(1, "0", ""), close(), start(), turn(), turn()]
        self.assertEqual(last(*before, tell_sheet()), [2, 0, 0])

    def test_the_same_rows_as_the_page(self):
        before = [begin(m=3), open_()] + [line(1, code, text) for code, text in (
            (" ", "A "), ("+", " B"), ("0", "C"), ("1", ""), ("-", " D"), ("+", "E"))] + [close(), start()]
        pages = last(*before, tell_pages())[0]
        self.assertEqual(pages, 3)
        for p in range(1, pages + 1):
            self.assertEqual(last(*before, *turns(pages + 1), tell_sheet(1, p)), last(*before, tell_page(1, p)))

    def test_it_changes_nothing(self):
        self.unchanged(self.BEFORE, tell_sheet(4, 1))


if __name__ == "__main__":
    unittest.main()
