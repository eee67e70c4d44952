"""The calls start, serve, mount, stop."""

import unittest

from tests.helper import (
    GREATEST,
    LEAST,
    Refusals,
    ask,
    last,
    mount,
    open_,
    output_of,
    serve,
    sheets,
    spool_after,
    start,
    stop,
    turn,
)

IN_HAND = output_of(3) + [start(), turn()]
WRONG_LISTS = ([], [0], [37], [1, 0], [1, 37], [1, 1], [1, 2, 1], [-1], [LEAST], [GREATEST], [1, LEAST],
               list(range(1, 10)), [1] * 8, [1] * 40, list(range(1, 37)), list(range(1, 8)) + [37],
               list(range(1, 8)) + [1])
RIGHT_LISTS = ([1], [36], [36, 1], [3, 2, 1], list(range(1, 9)), list(range(29, 37)))


class WriterCase(Refusals, unittest.TestCase):
    def check_off(self, make):
        """-3 for a writer that never was on, that was stopped, that was drained."""
        for writer in range(1, 9):
            self.refused(-3, [], make(writer=writer))
        self.refused(-3, [start(1), stop(1)], make(writer=1))
        self.refused(-3, output_of(1) + [start(), turn(), stop(), turn()], make(writer=1))
        self.refused(-3, [start(1)], make(writer=2))


class Start(WriterCase):
    def test_each_writer(self):
        for writer in range(1, 9):
            self.accepted([0], [], start(writer))

    def test_ranges(self):
        self.check_range([], start, "writer", 1, 8)
        self.check_range([], start, "form", 1, 99)
        self.check_range([], start, "separators", 0, 1)
        self.check_range([], start, "e", 1, 1000)

    def test_lists_of_classes(self):
        for classes in RIGHT_LISTS:
            self.accepted([0], [], start(classes=classes))
        for classes in WRONG_LISTS:
            self.refused(-2, [], start(classes=classes))

    def test_on_already(self):
        self.refused(-5, [start()], start())
        self.refused(-5, IN_HAND, start())
        self.refused(-5, IN_HAND + [stop()], start())
        self.accepted([0], [start(1)], start(2))

    def test_order_of_refusals(self):
        self.refused(-1, [start()], start(e=0, classes=[]))
        self.refused(-1, [start()], start(form=100, classes=[]))
        self.refused(-1, [start()], start(separators=2, classes=[]))
        self.refused(-1, [start()], start(writer=9, classes=[]))
        self.refused(-2, [start()], start(classes=[]))

    def test_it_is_on_with_these(self):
        writer = spool_after(start(3, 5, 1, 7, [9, 4])).writers[2]
        self.assertEqual((writer.on, writer.form, writer.separators, writer.note_every, writer.classes),
                         (True, 5, 1, 7, [9, 4]))
        self.assertEqual((writer.draining, writer.hand, writer.paper, writer.serial, writer.noted_serial),
                         (False, 0, [], 0, 0))

    def test_paper_and_serial_stay(self):
        before = output_of(2) + [start(), turn(), turn(), turn(), stop()]
        spool = spool_after(*before, start(1, 2, 1, 3, [4]))
        self.assertEqual(sheets(spool), [(1, 1, 1, 1), (2, 1, 1, 2)])
        writer = spool.writers[0]
        self.assertEqual((writer.serial, writer.noted_serial, writer.form, writer.classes), (2, 2, 2, [4]))

    def test_a_drained_one_is_not_draining_when_on_again(self):
        before = output_of(1, copies=3) + [start(), turn(), stop(), turn(), start(), turn(), turn()]
        self.assertEqual(ask(*before, turn(), turn())[-4:], [[2, 3, 1, 2, 1], [1, 3, 1, 2, 1], [1, 3, 1, 3, 1], [0]])


class Serve(WriterCase):
    def test_ranges(self):
        for before in ([start()], IN_HAND):
            self.check_range(before, serve, "writer", 1, 8)
            self.check_range(before, serve, "separators", 0, 1)
            self.check_range(before, serve, "e", 1, 1000)

    def test_ends_of_ranges(self):
        self.assertEqual(ask(start(8), serve(8, 0, 1), serve(8, 1, 1000)), [[0], [0], [0]])

    def test_off(self):
        self.check_off(serve)

    def test_lists_of_classes(self):
        for classes in RIGHT_LISTS:
            self.accepted([0], [start()], serve(classes=classes))
        for classes in WRONG_LISTS:
            self.refused(-2, [start()], serve(classes=classes))

    def test_in_hand(self):
        self.refused(-6, IN_HAND, serve(1, 1, 2, [3]))
        self.refused(-6, IN_HAND + [stop()], serve(1, 1, 2, [3]))

    def test_order_of_refusals(self):
        self.refused(-1, [], serve(separators=2, classes=[]))
        self.refused(-1, [], serve(e=0, classes=[]))
        self.refused(-1, [], serve(writer=0, classes=[]))
        self.refused(-3, [], serve(classes=[]))
        self.refused(-2, IN_HAND, serve(classes=[]))
        self.refused(-1, IN_HAND, serve(e=1001, classes=[]))

    def test_it_has_these(self):
        writer = spool_after(start(1, 5), serve(1, 1, 9, [7, 6])).writers[0]
        self.assertEqual((writer.on, writer.form, writer.separators, writer.note_every, writer.classes),
                         (True, 5, 1, 9, [7, 6]))

    def test_turns_go_by_it(self):
        before = output_of(1, klass=2) + [start()]
        self.assertEqual(ask(*before, turn(), serve(1, 1, 1, [3, 2]), turn())[-3:], [[0], [0], [2, 3, 1, 1, 0]])


class Mount(WriterCase):
    def test_ranges(self):
        for before in ([start()], [], IN_HAND):
            self.check_range(before, mount, "form", 1, 99)
            self.check_range(before, mount, "writer", 1, 8)

    def test_answers_which_was_before(self):
        self.assertEqual(ask(start(1, 7), mount(1, 99), mount(1, 1), mount(1, 1), mount(1, 2)),
                         [[0], [7], [99], [1], [1]])

    def test_off(self):
        self.check_off(mount)

    def test_in_hand(self):
        self.refused(-6, IN_HAND, mount(1, 2))
        self.refused(-6, IN_HAND + [stop()], mount(1, 2))
        self.refused(-6, IN_HAND, mount(1, 1))

    def test_behind_the_last_sheet(self):
        self.accepted([1], output_of(1) + [start(), turn(), turn()], mount(1, 2))

    def test_order_of_refusals(self):
        self.refused(-1, [], mount(1, 0))
        self.refused(-1, [], mount(0, 1))
        self.refused(-1, IN_HAND, mount(1, 100))

    def test_each_writer_has_its_own(self):
        self.assertEqual(ask(start(1, 1), start(2, 2), mount(1, 3), mount(2, 4))[2:], [[1], [2]])


class Stop(WriterCase):
    def test_range(self):
        for before in ([start()], IN_HAND):
            self.check_range(before, stop, "writer", 1, 8)

    def test_off(self):
        self.check_off(stop)

    def test_nothing_in_hand(self):
        self.assertEqual(ask(start(), stop(), stop()), [[0], [0], [-3]])
        writer = spool_after(start(1, 5, 1, 7, [9]), stop()).writers[0]
        self.assertEqual(
            (writer.on, writer.form, writer.separators, writer.note_every, writer.classes, writer.draining),
            (False, 0, 0, 0, [], False))

    def test_in_hand(self):
        self.accepted([1], IN_HAND, stop())
        self.accepted([2], [open_()] + output_of(1, 2) + [start(4), turn(4)], stop(4))

    def test_draining(self):
        self.refused(-5, IN_HAND + [stop()], stop())
        self.refused(-5, IN_HAND + [stop(), turn()], stop())

    def test_it_is_noted(self):
        before = output_of(5) + [start(e=9), turn(), turn(), turn()]
        writer = spool_after(*before).writers[0]
        self.assertEqual((writer.since, writer.noted_serial, writer.noted_place, writer.place), (2, 0, (1, 1), (1, 3)))
        writer = spool_after(*before, stop()).writers[0]
        self.assertEqual((writer.since, writer.noted_serial, writer.noted_place, writer.place), (0, 2, (1, 3), (1, 3)))
        self.assertEqual((writer.draining, writer.on, writer.hand, writer.first_step), (True, True, 1, 1))

    def test_paper_and_serial_stay(self):
        spool = spool_after(*output_of(1), start(), turn(), turn(), stop())
        writer = spool.writers[0]
        self.assertEqual((sheets(spool), writer.serial, writer.noted_serial), ([(1, 1, 1, 1)], 1, 1))

    def test_behind_the_last_sheet(self):
        self.assertEqual(last(*output_of(1), start(), turn(), turn(), stop()), [0])

    def test_another_writer_goes_on(self):
        self.assertEqual(ask(start(1), start(2), stop(1), stop(2)), [[0], [0], [0], [0]])


if __name__ == "__main__":
    unittest.main()
