"""The calls begin, open, line, close, purge, hold, letgo, change, copies."""

import unittest

from paperspool.house import new_spool
from paperspool.spool import Spool
from tests.helper import (
    GREATEST,
    LEAST,
    Refusals,
    ask,
    begin,
    change,
    close,
    copies,
    go,
    hold,
    last,
    letgo,
    line,
    mount,
    open_,
    output_of,
    picture,
    purge,
    spool_after,
    start,
    stop,
    turn,
    words,
)

IN_HAND = output_of(2) + [start(), turn()]


class OutputCase(Refusals, unittest.TestCase):
    def check_output(self, make, *before):
        """-1 outside 1 to 999999; -4 where there's none of that number."""
        before = before or (open_(),)
        for value in (0, 1000000, -1, LEAST, GREATEST):
            self.refused(-1, before, make(output=value))
        for value in (2, 999999):
            self.refused(-4, before, make(output=value))
        self.refused(-4, [*before, purge()], make(output=1))


class Begin(OutputCase):
    def test_answers_0(self):
        self.assertEqual(ask(begin()), [[0]])

    def test_ranges(self):
        before = output_of(1) + [start(), turn()]
        self.check_range(before, begin, "m", 1, 100)
        self.check_range(before, begin, "cap", 1, 200)
        self.check_range(before, begin, "p", 2, 5000)

    def test_all_is_new(self):
        spool = spool_after(*output_of(2), open_(), start(), turn(), turn(), start(2), begin(3, 4, 5))
        self.assertEqual(picture(spool), picture(Spool(3, 4, 5)))

    def test_numbers_begin_anew(self):
        self.assertEqual(ask(open_(), open_(), begin(), open_()), [[1], [2], [0], [1]])

    def test_writers_are_off_again(self):
        self.assertEqual(ask(start(), begin(), stop(), start()), [[0], [0], [-3], [0]])

    def test_it_sets_the_rows_and_the_cap(self):
        self.assertEqual(ask(begin(m=1, cap=1), open_(), line(), line(), close(), open_()),
                         [[0], [1], [1], [2], [2], [-8]])


class Open(OutputCase):
    def test_numbers_in_order(self):
        self.assertEqual(ask(open_(), open_(), open_()), [[1], [2], [3]])

    def test_no_number_twice(self):
        self.assertEqual(ask(open_(), purge(), open_(), purge(2), open_()), [[1], [0], [2], [0], [3]])

    def test_ranges(self):
        self.check_range([open_()], open_, "klass", 1, 36)
        self.check_range([open_()], open_, "form", 1, 99)
        self.check_range([open_()], open_, "copies", 1, 255)
        self.check_range([open_()], open_, "priority", 0, 15)
        self.check_range([open_()], open_, "held", 0, 1)

    def test_ends_of_all_ranges(self):
        self.assertEqual(ask(open_(1, 1, 1, 0, 0), open_(36, 99, 255, 15, 1)), [[1], [2]])

    def test_names(self):
        for name in ("A", "Z", "AZ", "A0", "Z9", "ABCDEFGH", "A1234567", "A0B1"):
            self.accepted([1], [], open_(name=name))

    def test_what_is_no_name(self):
        for name in ("", "ABCDEFGHI", "0", "9A", "a", "Aa", "A ", " A", "A-", "A@", "A[", "@", "[", "A/", "A:",
                     "A" * 40):
            self.refused(-2, [open_()], open_(name=name))
        for byte in (0, 10, 128, 255):
            self.refused(-2, [], open_(name=[65, byte]))
            self.refused(-2, [], open_(name=[byte]))

    def test_every_byte_of_a_name(self):
        letters = list(range(65, 91))
        digits = list(range(48, 58))
        for byte in range(256):
            self.accepted([1] if byte in letters else [-2], [], open_(name=[byte]))
            self.accepted([1] if byte in letters + digits else [-2], [], open_(name=[65, byte]))

    def test_cap(self):
        self.refused(-8, [begin(cap=2), open_(), open_()], open_())
        self.accepted([2], [begin(cap=2), open_()], open_())
        self.accepted([3], [begin(cap=2), open_(), open_(), purge(2)], open_())

    def test_a_done_output_still_takes_room(self):
        self.refused(-8, [begin(cap=1)] + output_of(0) + [start(), turn()], open_())

    def test_cap_is_200_at_first(self):
        spool = new_spool()
        for number in range(1, 201):
            self.assertEqual(go(spool, open_()), [[number]])
        self.assertEqual(go(spool, open_()), [[-8]])

    def test_the_last_number(self):
        spool = spool_after(open_())
        spool.last_number = 999998
        self.assertEqual(go(spool, open_()), [[999999]])
        seen = picture(spool)
        self.assertEqual(go(spool, open_()), [[-8]])
        self.assertEqual(picture(spool), seen)
        self.assertEqual(go(spool, purge(999999), open_()), [[0], [-8]])

    def test_order_of_refusals(self):
        full = [begin(cap=1), open_()]
        self.refused(-1, full, open_(klass=0, name=""))
        self.refused(-1, full, open_(held=2, name=""))
        self.refused(-2, full, open_(name=""))

    def test_a_refused_one_uses_no_number(self):
        self.assertEqual(ask(open_(klass=37), open_(name="a"), open_()), [[-1], [-2], [1]])

    def test_what_it_is_at_first(self):
        output = spool_after(open_(2, 3, 4, 5, 1, "AB9")).outputs[1]
        self.assertEqual(
            (output.number, words([output.name]), output.output_class, output.form, output.copies, output.priority),
            (1, ["AB9"], 2, 3, 4, 5))
        self.assertEqual((output.held, output.closed, output.line_count, output.pages, output.place),
                         (True, False, 0, [], (1, 0)))
        self.assertFalse(spool_after(open_()).outputs[1].held)


class Line(OutputCase):
    def test_answers_how_many(self):
        self.assertEqual(ask(open_(), line(), line(), open_(), line(2), line()), [[1], [1], [2], [2], [1], [3]])

    def test_output(self):
        self.check_output(line)

    def test_codes(self):
        for code in (32, 48, 45, 43, 49):
            self.accepted([1], [open_()], line(1, code))
            self.accepted([2], [open_(), line()], line(1, code))

    def test_what_is_no_code(self):
        for code in list(range(-2, 257)) + [LEAST, GREATEST]:
            if code not in (32, 48, 45, 43, 49):
                self.refused(-2, [open_()], line(1, code))

    def test_texts(self):
        for text in ("", " ", "~", "A" * 132, " " * 132):
            self.accepted([1], [open_()], line(1, 32, text))

    def test_what_is_no_text(self):
        for text in ("A" * 133, " " * 133, "A" * 200, [31], [127], [65, 0], [65, 255], [10], [32] * 131 + [127]):
            self.refused(-2, [open_()], line(1, 32, text))

    def test_every_byte_of_a_text(self):
        for byte in range(256):
            self.accepted([1] if 32 <= byte <= 126 else [-2], [open_()], line(1, 32, [65, byte]))

    def test_closed(self):
        self.refused(-6, [open_(), close()], line())
        self.refused(-6, [open_(), line(), close()], line())

    def test_in_hand_and_done(self):
        self.refused(-6, IN_HAND, line())
        self.refused(-6, output_of(0) + [start(), turn()], line())

    def test_100_lines(self):
        before = [open_()] + [line(1, 32, "") for number in range(99)]
        self.accepted([100], before, line())
        self.refused(-8, before + [line()], line())

    def test_lines_put_over_count_too(self):
        before = [open_()] + [line(1, 43, "A") for number in range(100)]
        self.refused(-8, before, line(1, 43))

    def test_held(self):
        self.accepted([1], [open_(held=1)], line())

    def test_order_of_refusals(self):
        closed = [open_(), close()]
        self.refused(-1, closed, line(0, 0))
        self.refused(-4, closed, line(2, 0))
        self.refused(-4, closed, line(2, 32, [0]))
        self.refused(-2, closed, line(1, 0))
        self.refused(-2, closed, line(1, 32, [0]))
        full = [open_()] + [line(1, 32, "") for number in range(100)]
        self.refused(-2, full, line(1, 0))
        self.refused(-2, full, line(1, 32, [0]))
        self.refused(-6, full + [close()], line())
        self.refused(-1, full, line(0))
        self.refused(-4, full, line(2))


class Close(OutputCase):
    def test_answers_the_pages(self):
        for pages in (0, 1, 2, 5):
            self.assertEqual(last(*output_of(pages)), [pages])

    def test_output(self):
        self.check_output(close)

    def test_closed_already(self):
        self.refused(-5, output_of(1), close())
        self.refused(-5, IN_HAND, close())
        self.refused(-5, output_of(0) + [start(), turn()], close())

    def test_held(self):
        self.accepted([0], [open_(held=1)], close())

    def test_one_that_is_not_closed_is_not_free(self):
        self.assertEqual(ask(open_(), line(), start(), turn(), close(), turn())[3:], [[0], [1], [2, 3, 1, 1, 1]])


class Purge(OutputCase):
    def test_output(self):
        self.check_output(purge)

    def test_closed_or_not_done_or_not(self):
        self.accepted([0], [open_()], purge())
        self.accepted([0], [open_(held=1), line()], purge())
        self.accepted([0], output_of(1), purge())
        self.accepted([0], output_of(1) + [start(), turn(), turn()], purge())

    def test_in_hand(self):
        self.refused(-7, IN_HAND, purge())
        self.refused(-7, IN_HAND + [stop()], purge())

    def test_in_another_writers_hand(self):
        self.refused(-7, output_of(2) + [start(8), turn(8)], purge())

    def test_another_one_than_that_in_hand(self):
        self.accepted([0], IN_HAND + [open_()], purge(2))

    def test_it_is_not_there_any_more(self):
        self.assertEqual(ask(*output_of(1), start(), purge(), turn(), close())[-3:], [[0], [0], [-4]])

    def test_its_sheets_stay(self):
        spool = spool_after(*output_of(1), start(), turn(), turn(), purge())
        self.assertEqual(spool.writers[0].paper, [(1, 1, 1, 1, [[80, 65, 71, 69, 32, 49]])])


class Hold(OutputCase):
    def test_output(self):
        self.check_output(hold)

    def test_held(self):
        self.accepted([0], [open_()], hold())
        self.accepted([0], output_of(1), hold())
        self.refused(-5, [open_(held=1)], hold())
        self.refused(-5, [open_(), hold()], hold())

    def test_in_hand(self):
        self.refused(-7, IN_HAND, hold())

    def test_done(self):
        self.accepted([0], output_of(0) + [start(), turn()], hold())

    def test_a_held_one_is_not_free(self):
        self.assertEqual(ask(*output_of(1), start(), hold(), turn(), letgo(), turn())[3:],
                         [[0], [0], [0], [0], [2, 3, 1, 1, 1]])


class Letgo(OutputCase):
    def test_output(self):
        self.check_output(letgo)

    def test_held(self):
        self.accepted([0], [open_(held=1)], letgo())
        self.accepted([0], [open_(), hold()], letgo())

    def test_not_held(self):
        self.refused(-5, [open_()], letgo())
        self.refused(-5, [open_(held=1), letgo()], letgo())
        self.refused(-5, IN_HAND, letgo())

    def test_held_again(self):
        self.assertEqual(ask(open_(held=1), letgo(), hold(), hold(), letgo()), [[1], [0], [0], [-5], [0]])


class Change(OutputCase):
    def test_output(self):
        self.check_output(change)

    def test_ranges(self):
        for before in ([open_()], IN_HAND):
            self.check_range(before, change, "klass", 1, 36)
            self.check_range(before, change, "form", 1, 99)
            self.check_range(before, change, "priority", 0, 15)

    def test_it_has_these(self):
        output = spool_after(open_(), change(1, 36, 99, 15)).outputs[1]
        self.assertEqual((output.output_class, output.form, output.priority, output.copies, output.place),
                         (36, 99, 15, 1, (1, 0)))

    def test_open_closed_held_and_done_ones(self):
        self.accepted([0], [open_()], change())
        self.accepted([0], [open_(held=1)], change())
        self.accepted([0], output_of(1), change())
        self.accepted([0], output_of(0) + [start(), turn()], change())

    def test_in_hand(self):
        self.refused(-7, IN_HAND, change(1, 2, 2, 2))

    def test_order_of_refusals(self):
        for values in ((0, 1, 0), (1, 0, 0), (1, 1, 16)):
            self.refused(-1, [], change(1, *values))
            self.refused(-1, [], change(0, *values))
            self.refused(-1, IN_HAND, change(1, *values))
        self.refused(-1, IN_HAND, change(0))
        self.refused(-4, IN_HAND, change(2))

    def test_turns_go_by_what_was_changed(self):
        before = output_of(1) + [start()]
        self.assertEqual(last(*before, change(1, 2), turn()), [0])
        self.assertEqual(last(*before, change(1, 1, 7), turn()), [3, 1, 7])
        self.assertEqual(last(*before, change(1, 1, 7), mount(1, 7), turn()), [2, 3, 1, 1, 1])
        two = output_of(1) + output_of(1, 2)
        self.assertEqual(last(*two, start(), change(2, 1, 1, 1), turn()), [2, 3, 2, 1, 1])


class Copies(OutputCase):
    def test_output(self):
        self.check_output(copies)

    def test_range(self):
        for before in ([open_()], IN_HAND):
            self.check_range(before, copies, "n", 1, 255)

    def test_it_has_so_many(self):
        self.assertEqual(spool_after(open_(), copies(1, 9)).outputs[1].copies, 9)
        self.assertEqual(spool_after(open_(copies=9), copies(1, 1)).outputs[1].copies, 1)

    def test_in_hand(self):
        self.refused(-7, IN_HAND, copies(1, 2))

    def test_order_of_refusals(self):
        self.refused(-1, [], copies(1, 0))
        self.refused(-1, [], copies(0, 1))
        self.refused(-1, IN_HAND, copies(1, 256))
        self.refused(-4, IN_HAND, copies(2, 1))
        drained = output_of(1, copies=4) + [start(), turn(), turn(), turn(), stop(), turn()]
        self.refused(-6, drained, copies(1, 2))
        self.refused(-7, drained + [start(), turn()], copies(1, 2))
        self.refused(-1, drained, copies(1, 0))
        self.refused(-4, drained, copies(2, 2))

    def test_copies_begun_at_step_0(self):
        """Three copies are printed, with and without separators, the place is step 0 of the fourth."""
        for separators, sheets in ((0, 3), (1, 9)):
            before = output_of(1, copies=5) + [start(separators=separators)]
            before += [turn() for sheet in range(sheets)] + [stop(), turn()]
            self.assertEqual(spool_after(*before).outputs[1].place, (4, 0))
            self.refused(-6, before, copies(1, 1))
            self.refused(-6, before, copies(1, 2))
            self.accepted([0], before, copies(1, 3))
            self.accepted([0], before, copies(1, 4))
            self.assertEqual(ask(*before, copies(1, 3), start(), turn())[-3:], [[0], [0], [0]])

    def test_copies_begun_in_the_midst(self):
        """A copy that's partly printed counts as begun."""
        for step in (1, 2, 3):
            spool = spool_after(*output_of(2, copies=5))
            spool.outputs[1].place = (3, step)
            seen = picture(spool)
            self.assertEqual(go(spool, copies(1, 2)), [[-6]])
            self.assertEqual(picture(spool), seen)
            self.assertEqual(go(spool, copies(1, 3)), [[0]])

    def test_a_done_one(self):
        before = output_of(1, copies=2) + [start(), turn(), turn(), turn()]
        self.refused(-6, before, copies(1, 1))
        self.assertEqual(ask(*before, copies(1, 2), turn())[-2:], [[0], [0]])
        self.assertEqual(ask(*before, copies(1, 3), turn(), turn(), turn())[-4:],
                         [[0], [2, 3, 1, 3, 1], [1, 3, 1, 3, 1], [0]])

    def test_a_done_one_without_pages(self):
        before = output_of(0, copies=3) + [start(), turn()]
        self.assertEqual(last(*before), [2, 3, 1, 4, 0])
        self.refused(-6, before, copies(1, 2))
        self.assertEqual(ask(*before, copies(1, 4), turn(), turn())[-3:], [[0], [2, 3, 1, 5, 0], [0]])

    def test_none_begun(self):
        self.accepted([0], output_of(1, copies=255), copies(1, 1))


if __name__ == "__main__":
    unittest.main()
