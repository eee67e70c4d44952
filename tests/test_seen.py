"""The calls begin to turn once more: what they leave behind, seen by the questions."""

import unittest

from tests.helper import (
    Refusals,
    ask,
    begin,
    change,
    close,
    copies,
    entries,
    everything,
    hold,
    interrupt,
    last,
    letgo,
    line,
    mount,
    open_,
    output_of,
    power,
    purge,
    serve,
    start,
    steps,
    stop,
    tell_clean,
    tell_output,
    tell_page,
    tell_pages,
    tell_paper,
    tell_queue,
    tell_sheet,
    tell_writer,
    told,
    turn,
    turns,
    words,
)

OFF = (0, [[], [0, 0, 0, 0, 0], []])


class SeenCase(Refusals, unittest.TestCase):
    def output(self, *calls, number=1):
        """Class, form, priority, copies, held, closed, done, in hand, lines, copy, step."""
        return told(*calls, tell_output(number))[1][1]

    def writer(self, *calls, number=1):
        return told(*calls, tell_writer(number))

    def page(self, *calls, p=1):
        return words(told(*calls, tell_page(1, p))[1])


class OutputsSeen(SeenCase):
    def test_begin(self):
        """All is new, and the numbers told hold."""
        before = output_of(2) + [open_(), start(1, 1, 1, 5, [1, 2]), *turns(3), start(8), begin(2, 1, 3)]
        asked = everything()
        self.assertEqual(ask(*before, *asked)[-len(asked):], ask(*asked))
        behind = before + [open_(), line(), line(), line(), close(), start(), turn(), turn(), turn()]
        self.assertEqual(ask(*behind, tell_pages(), open_(), turn())[-3:], [[2], [-8], [0]])
        self.assertEqual(last(*behind[:-1], power(), turn()), [-8])

    def test_a_refused_begin(self):
        before = output_of(2) + [start(), turn(), turn()]
        for told_wrong in ((0, 200, 5000), (101, 200, 5000), (60, 0, 5000), (60, 201, 5000), (60, 200, 1),
                           (60, 200, 5001)):
            self.refused(-1, before, begin(*told_wrong))

    def test_open(self):
        self.assertEqual(told(open_(2, 3, 4, 5, 1, "AB"), tell_output()),
                         (0, [[65, 66], [2, 3, 5, 4, 1, 0, 0, 0, 0, 1, 0]]))
        self.assertEqual(ask(open_(), tell_pages(), tell_queue())[1:], [[0], [0, 0]])
        self.assertEqual(ask(open_(), tell_output(2))[1], [-4])

    def test_line(self):
        calls = [open_()]
        for number in range(1, 101):
            calls.append(line(1, " ", f"L{number}"))
            self.assertEqual(self.output(*calls), [1, 1, 0, 1, 0, 0, 0, 0, number, 1, 0])
        self.assertEqual(self.page(*calls), [f"L{number}" for number in range(1, 61)])
        self.assertEqual(self.page(*calls, p=2), [f"L{number}" for number in range(61, 101)])
        self.refused(-8, calls, line())

    def test_each_code_as_a_first_line_and_as_another(self):
        for code, first, other in ((" ", ["A"], ["X", "A"]), ("0", ["", "A"], ["X", "", "A"]),
                                   ("-", ["", "", "A"], ["X", "", "", "A"]), ("+", ["A"], ["#"]), ("1", ["A"], ["X"])):
            self.assertEqual(self.page(open_(), line(1, code, "A")), first, code)
            self.assertEqual(self.page(open_(), line(1, " ", "X"), line(1, code, "A")), other, code)
        self.assertEqual(self.page(open_(), line(1, " ", "X"), line(1, "1", "A"), p=2), ["A"])
        for code in "0-":
            self.assertEqual(self.page(begin(m=1), open_(), line(1, code, "A")), ["A"], code)
        self.assertEqual(self.page(begin(m=2), open_(), line(1, "-", "A")), ["A"])

    def test_close(self):
        before = [open_(), line()]
        self.assertEqual(self.output(*before, close()), [1, 1, 0, 1, 0, 1, 0, 0, 1, 1, 0])
        self.assertEqual(ask(*before, tell_queue(), close(), tell_queue())[-3:], [[0, 0], [1], [1, 1, 1]])

    def test_purge(self):
        for before in ([open_()], output_of(1), output_of(1) + [start(), turn(), turn()]):
            self.assertEqual(ask(*before, purge(), tell_output(), tell_pages(), tell_queue())[-3:], [[-4], [-4], [0, 0]])

    def test_hold_and_letgo(self):
        before = output_of(1)
        self.assertEqual(self.output(*before, hold()), [1, 1, 0, 1, 1, 1, 0, 0, 1, 1, 0])
        self.same_behind(before, hold(), letgo())
        self.assertEqual(ask(*before, hold(), tell_queue(), letgo(), tell_queue())[-3:], [[0, 0], [0], [1, 1, 1]])

    def test_change(self):
        before = output_of(1, copies=3, held=1) + [change(1, 36, 99, 15)]
        self.assertEqual(self.output(*before), [36, 99, 15, 3, 1, 1, 0, 0, 1, 1, 0])
        before = output_of(1) + [change(1, 2, 1, 0)]
        self.assertEqual(ask(*before, tell_queue(1), tell_queue(2))[-2:], [[0, 0], [1, 1, 1]])

    def test_copies(self):
        before = output_of(1, copies=3)
        self.assertEqual(self.output(*before, copies(1, 255)), [1, 1, 0, 255, 0, 1, 0, 0, 1, 1, 0])
        done = before + [start(), *turns(4)]
        self.assertEqual(self.output(*done), [1, 1, 0, 3, 0, 1, 1, 0, 1, 4, 0])
        self.assertEqual(self.output(*done, copies(1, 5)), [1, 1, 0, 5, 0, 1, 0, 0, 1, 4, 0])
        self.assertEqual(ask(*done, tell_queue(), copies(1, 5), tell_queue())[-3:], [[0, 0], [0], [1, 1, 1]])
        self.refused(-6, done, copies(1, 2))


class WritersSeen(SeenCase):
    def test_start(self):
        self.assertEqual(self.writer(start(2, 9, 1, 8, [7, 3]), number=2), (1, [[7, 3], [9, 1, 8, 0, 0], []]))
        self.assertEqual(self.writer(start(2)), OFF)

    def test_serve_and_mount(self):
        before = [start(2, 9, 1, 8, [7, 3])]
        self.assertEqual(self.writer(*before, serve(2, 0, 4, [1]), number=2), (1, [[1], [9, 0, 4, 0, 0], []]))
        self.assertEqual(self.writer(*before, mount(2, 4), number=2), (1, [[7, 3], [4, 1, 8, 0, 0], []]))

    def test_stop(self):
        self.assertEqual(self.writer(start(), stop()), OFF)
        before = output_of(3) + [start(e=9), *turns(3), stop()]
        self.assertEqual(self.writer(*before), (1, [[1], [1, 0, 9, 1, 2], [1, 1, 3, 0]]))

    def test_stop_notes(self):
        before = output_of(3) + [start(e=9), *turns(3), stop(), power()]
        self.assertEqual(entries(*before), [[1, 1, 1, 1], [2, 1, 1, 2], [2]])

    def test_the_papers_serials_go_on_behind_a_stop(self):
        before = output_of(2) + output_of(1, 2, klass=2) + [start(), *turns(3), stop(), start(classes=[2]), *turns(2)]
        self.assertEqual(entries(*before), [[1, 1, 1, 1], [2, 1, 1, 2], [3, 2, 1, 1]])

    def test_a_turn_that_takes(self):
        before = output_of(2) + [start(), turn()]
        self.assertEqual(self.writer(*before), (1, [[1], [1, 0, 1, 0, 0], [1, 1, 1, 0]]))
        self.assertEqual(self.output(*before), [1, 1, 0, 1, 0, 1, 0, 1, 2, 1, 0])
        before = output_of(2) + [start(separators=1), turn()]
        self.assertEqual(self.writer(*before), (1, [[1], [1, 1, 1, 0, 0], [1, 1, 0, 0]]))

    def test_a_turn_that_takes_what_has_no_sheets(self):
        before = output_of(0, copies=2) + [start(), turn()]
        self.assertEqual(self.writer(*before), (1, [[1], [1, 0, 1, 0, 0], []]))
        self.assertEqual(self.output(*before), [1, 1, 0, 2, 0, 1, 1, 0, 0, 3, 0])

    def test_turns_that_change_nothing(self):
        self.same_behind([start()], turn())
        self.same_behind(output_of(1, form=2) + [start()], turn())
        self.same_behind(output_of(1, klass=2) + [start()], turn())

    def test_turns_that_print(self):
        """Each sheet on the paper, its rows, and where the writer then is."""
        for pages, count, separators, every in ((2, 2, 0, 2), (2, 2, 1, 3), (0, 2, 1, 1), (3, 1, 0, 1000)):
            places = steps(pages, count, separators)
            before = output_of(pages, copies=count, name="NM") + [start(separators=separators, e=every), turn()]
            since = 0
            for printed, (copy, step) in enumerate(places[1:], start=1):
                since = 0 if copy != places[printed - 1][0] or since + 1 == every else since + 1
                answer, rows = self.writer(*before, *turns(printed))
                self.assertEqual((answer, rows[1][4], rows[2]), (1, printed, [1, copy, step, since]), (pages, printed))
            done = before + turns(len(places))
            self.assertEqual(entries(*done), [[k, 1, *place] for k, place in enumerate(places, start=1)])
            self.assertEqual(last(*done, tell_clean()), last(*done, tell_paper()))
            self.assertEqual(self.output(*done)[6:8] + self.output(*done)[9:], [1, 0, count + 1, 0])
            for k, place in enumerate(places, start=1):
                self.assertEqual(words(told(*done, tell_sheet(1, k))[1]), self.rows(pages, *place), place)

    def rows(self, pages, copy, step):
        if 1 <= step <= pages:
            return [f"PAGE {step}"]
        return ["START NM" if step == 0 else "END NM", "OUTPUT 1", f"COPY {copy}"]

    def test_a_turn_of_a_drained_one(self):
        before = output_of(1, copies=2) + [start(), turn(), stop(), turn()]
        self.assertEqual(self.writer(*before), (0, [[], [0, 0, 0, 0, 1], []]))
        self.assertEqual(self.output(*before), [1, 1, 0, 2, 0, 1, 0, 0, 1, 2, 0])
        self.assertEqual(last(*before, tell_queue()), [1, 1, 1])

    def test_two_writers(self):
        before = output_of(1) + output_of(2, 2) + [start(1), start(2, separators=1), turn(2), turn(1), turn(1), turn(2)]
        self.assertEqual(self.writer(*before), (1, [[1], [1, 0, 1, 0, 1], [2, 1, 2, 0]]))
        self.assertEqual(self.writer(*before, number=2), (1, [[1], [1, 1, 1, 0, 1], [1, 1, 1, 0]]))
        self.assertEqual(entries(*before, writer=1), [[1, 2, 1, 1]])
        self.assertEqual(entries(*before, writer=2), [[1, 1, 1, 0]])

    def test_another_ones_hand_is_left_alone(self):
        before = output_of(2) + [start(1), start(2), turn(1)]
        self.assertEqual(last(*before, turn(2)), [0])
        self.same_behind(before, turn(2))
        self.assertEqual(last(*before, interrupt(1), turn(2)), [2, 3, 1, 1, 1])


if __name__ == "__main__":
    unittest.main()
