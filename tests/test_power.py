"""Power is lost and comes back: the calls power and cut."""

import unittest

from tests.helper import (
    Refusals,
    ask,
    back,
    begin,
    clean_sheets,
    cut,
    entries,
    go,
    interrupt,
    last,
    mount,
    note,
    open_,
    output_of,
    picture,
    power,
    spool_after,
    start,
    steps,
    stop,
    tell_output,
    tell_queue,
    tell_sheet,
    tell_writer,
    told,
    turn,
    turns,
)


class PowerCase(Refusals, unittest.TestCase):
    def hand(self, *calls, writer=1):
        return told(*calls, tell_writer(writer))[1][2]


class Power(PowerCase):
    def test_answers_0(self):
        self.assertEqual(ask(power(), power()), [[0], [0]])
        self.assertEqual(last(*output_of(1), start(), turn(), power()), [0])

    def test_printed_since_it_noted(self):
        """E is 3: behind five sheets the third is the last that's noted."""
        before = output_of(9) + [start(e=3), turn(), *turns(5)]
        self.assertEqual(self.hand(*before), [1, 1, 6, 2])
        self.assertEqual(self.hand(*before, power()), [1, 1, 4, 0])
        self.assertEqual(entries(*before, power()), [[k, 1, 1, k] for k in range(1, 6)] + [[3]])
        self.assertEqual(clean_sheets(*before, power()), [[k, 1, 1, k] for k in range(1, 4)])
        self.assertEqual(ask(*before, power(), turn(), turn())[-2:], [[1, 3, 1, 1, 4], [1, 3, 1, 1, 5]])
        self.assertEqual(entries(*before, power(), turn(), turn())[5:], [[3], [4, 1, 1, 4], [5, 1, 1, 5]])

    def test_at_each_sheet(self):
        """The mark's serial is that of the last sheet that was noted."""
        for every in (1, 2, 3, 4, 1000):
            for printed in range(1, 8):
                before = output_of(9) + [start(e=every), turn(), *turns(printed), power()]
                noted = printed - printed % every
                self.assertEqual(entries(*before)[-1], [noted], (every, printed))
                self.assertEqual(self.hand(*before), [1, 1, noted + 1, 0], (every, printed))

    def test_since_is_0(self):
        """It counts to E anew behind it."""
        before = output_of(9) + [start(e=3), turn(), *turns(2), power()]
        self.assertEqual([self.hand(*before, *turns(count))[2:] for count in range(5)],
                         [[1, 0], [2, 1], [3, 2], [4, 0], [5, 1]])

    def test_just_noted(self):
        """The place stays, and there's a mark all the same."""
        for before in (
            output_of(5) + [start(e=1), turn(), *turns(2)],
            output_of(5) + [start(e=2), turn(), *turns(2)],
            output_of(5) + [start(e=9), turn(), *turns(2), note()],
            output_of(5) + [start(e=9), turn(), *turns(2), stop()],
        ):
            self.assertEqual(self.hand(*before, power()), [1, 1, 3, 0])
            self.assertEqual(entries(*before, power()), [[1, 1, 1, 1], [2, 1, 1, 2], [2]])
            self.assertEqual(clean_sheets(*before, power()), [[1, 1, 1, 1], [2, 1, 1, 2]])

    def test_at_a_copys_beginning(self):
        before = output_of(2, copies=2) + [start(e=1000), turn(), *turns(2)]
        self.assertEqual(self.hand(*before, power()), [1, 2, 1, 0])
        self.assertEqual(self.hand(*before, turn(), power()), [1, 2, 1, 0])
        self.assertEqual(entries(*before, turn(), power())[2:], [[3, 1, 2, 1], [2]])

    def test_empty_paper(self):
        before = output_of(2) + [start(), turn()]
        self.assertEqual(entries(*before, power()), [[0]])
        self.assertEqual(self.hand(*before, power()), [1, 1, 1, 0])
        self.assertEqual(entries(*before, power(), turn()), [[0], [1, 1, 1, 1]])
        self.assertEqual(clean_sheets(*before, power(), turn()), [[1, 1, 1, 1]])

    def test_the_last_entry_is_a_mark_already(self):
        before = output_of(5) + [start(e=9), turn(), *turns(3)]
        for calls in (before + [power()], before + [back()], before + [cut()], before[:-3] + [power()],
                      before + [note(), power()], before + [power(), note()]):
            self.same_behind(calls, power())

    def test_a_mark_with_another_output_in_hand(self):
        before = output_of(3) + output_of(3, 2, priority=1, held=1) + [start(e=9), turn(), turn(), power(), interrupt()]
        before += [[6, 2], turn()]
        self.assertEqual(self.hand(*before), [2, 1, 1, 0])
        self.same_behind(before, power())
        self.assertEqual(entries(*before, turn(), power()), [[1, 1, 1, 1], [0], [1, 2, 1, 1], [0]])

    def test_twice(self):
        before = output_of(5) + [start(e=9), turn(), *turns(3), power()]
        self.same_behind(before, power())
        self.assertEqual(entries(*before, turn(), power()),
                         [[1, 1, 1, 1], [2, 1, 1, 2], [3, 1, 1, 3], [0], [1, 1, 1, 1], [0]])
        self.assertEqual(clean_sheets(*before, turn(), power()), [])

    def test_nothing_in_hand(self):
        for before in (
            [],
            [start()],
            output_of(2) + [start()],
            output_of(2) + [start(), *turns(3)],
            output_of(2) + [start(), *turns(3), stop()],
            output_of(2) + [start(e=9), *turns(2), interrupt()],
            output_of(2) + [start(e=9), *turns(2), stop(), turn()],
            output_of(2) + [start(e=9), *turns(2), stop(), interrupt()],
            output_of(0) + [start(), turn()],
            output_of(1, form=2) + [start(), turn()],
        ):
            self.same_behind(before, power())
            spool = spool_after(*before)
            seen = picture(spool)
            go(spool, power())
            self.assertEqual(picture(spool), seen)

    def test_several_writers_at_once(self):
        before = output_of(5) + output_of(5, 2) + output_of(5, 3) + output_of(1, 4) + output_of(1, 5)
        before += [start(1, e=3), turn(1), *turns(4, 1)]
        before += [start(2, e=2, separators=1), turn(2), *turns(3, 2)]
        before += [start(8, e=1), turn(8)]
        before += [start(3), turn(3), turn(3)]
        before += [start(4), turn(4), turn(4), stop(4), start(5)]
        hands = [self.hand(*before, power(), writer=writer) for writer in range(1, 9)]
        self.assertEqual(hands, [[1, 1, 4, 0], [2, 1, 2, 0], [], [], [], [], [], [3, 1, 1, 0]])
        self.assertEqual(entries(*before, power(), writer=1), [[k, 1, 1, k] for k in (1, 2, 3, 4)] + [[3]])
        self.assertEqual(entries(*before, power(), writer=2), [[k, 2, 1, k - 1] for k in (1, 2, 3)] + [[2]])
        self.assertEqual(entries(*before, power(), writer=8), [[0]])
        self.assertEqual(entries(*before, power(), writer=3), [[1, 4, 1, 1]])
        self.assertEqual(entries(*before, power(), writer=4), [[1, 5, 1, 1]])
        self.same_behind(before + [power()], power())

    def test_outputs_stay(self):
        before = output_of(3, copies=2) + output_of(1, 2, klass=2) + [open_(), start(e=9), *turns(5)]
        for output in (1, 2, 3):
            self.assertEqual(last(*before, power(), tell_output(output)), last(*before, tell_output(output)))
        for klass in (1, 2):
            self.assertEqual(last(*before, power(), tell_queue(klass)), last(*before, tell_queue(klass)))

    def test_what_a_writer_is_told_stays(self):
        before = output_of(3) + [start(7, 1, 1, 5, [3, 1]), turn(7), turn(7), power()]
        self.assertEqual(told(*before, tell_writer(7)), (1, [[3, 1], [1, 1, 5, 0, 2], [1, 1, 0, 0]]))

    def test_a_mark_fills_the_last_room(self):
        """Up to P entries, and never more."""
        for p in (2, 3, 6):
            before = [begin(p=p)] + output_of(9) + [start(), turn(), *turns(p - 1)]
            self.refused(-8, before, turn())
            self.assertEqual(len(entries(*before)), p - 1)
            self.assertEqual(len(entries(*before, power(), power(), power())), p)
            self.refused(-8, before + [power()], turn())
            self.refused(-8, before + [power()], back())
            self.refused(-8, before + [power()], cut())

    def test_a_mark_takes_a_sheets_room(self):
        before = [begin(p=2)] + output_of(1) + [start(), turn(), power()]
        self.assertEqual(entries(*before), [[0]])
        self.refused(-8, before, turn())


class Cut(PowerCase):
    """Writer 2 has printed since it noted: whether power was lost is seen by it."""

    OTHER = output_of(5, klass=2) + [start(2, e=9, classes=[2]), *turns(3, 2)]

    def lost(self, *calls):
        """Whether power was lost in the last of these calls."""
        before = self.hand(*calls[:-1], writer=2)
        behind = self.hand(*calls, writer=2)
        self.assertEqual(before, [1, 1, 3, 2])
        self.assertIn(behind, ([1, 1, 3, 2], [1, 1, 1, 0]))
        return behind == [1, 1, 1, 0]

    def test_range(self):
        for before in ([], [start()], self.OTHER, self.OTHER + output_of(1, 2) + [start(), turn()]):
            self.check_range(before, cut, "writer", 1, 8)
        self.assertFalse(self.lost(*self.OTHER, cut(9)))

    def test_off(self):
        for writer in (1, 3, 8):
            self.refused(-3, self.OTHER, cut(writer))
        self.assertFalse(self.lost(*self.OTHER, cut(1)))
        self.refused(-3, self.OTHER + [start(), stop()], cut())
        self.refused(-3, output_of(1) + [start(), turn(), stop(), turn()], cut())

    def test_no_room(self):
        """Where a turn is refused by -8, so is this, and no power is lost."""
        before = [begin(p=4)] + self.OTHER + output_of(5, 2) + [start(1, e=9), turn(), *turns(3)]
        self.assertEqual(last(*before, turn()), [-8])
        self.refused(-8, before, cut())
        self.assertFalse(self.lost(*before, cut()))
        self.refused(-8, before + [stop()], cut())

    def test_room_for_a_sheet_and_a_mark(self):
        for p in (2, 3, 6):
            before = [begin(p=p)] + output_of(9) + [start(), turn(), *turns(p - 2)]
            self.assertEqual(last(*before, cut()), [1, 3, 1, 1, p - 1])
            self.assertEqual(len(entries(*before, cut())), p)
            self.refused(-8, before + [cut()], cut())
            self.refused(-8, before + [cut()], turn())

    def test_a_sheet_is_printed(self):
        """It stands on the paper, a mark behind it, and the place is the noted one."""
        for every in (1, 2, 3, 1000):
            for printed in range(6):
                before = output_of(9) + [start(e=every), turn(), *turns(printed)]
                noted = printed - printed % every
                asked = (every, printed)
                self.assertEqual(last(*before, cut()), [1, 3, 1, 1, printed + 1], asked)
                self.assertEqual(entries(*before, cut()), [[k, 1, 1, k] for k in range(1, printed + 2)] + [[noted]])
                self.assertEqual(clean_sheets(*before, cut()), [[k, 1, 1, k] for k in range(1, noted + 1)], asked)
                self.assertEqual(self.hand(*before, cut()), [1, 1, noted + 1, 0], asked)
                self.assertEqual(last(*before, cut(), turn()), [1, 3, 1, 1, noted + 1], asked)

    def test_it_answers_as_the_turn_would(self):
        """At each sheet of an output, and with the same rows."""
        for pages, separators in ((0, 1), (1, 0), (2, 1)):
            for printed, (copy, step) in enumerate(steps(pages, 2, separators)):
                before = output_of(pages, copies=2) + [start(separators=separators), turn(), *turns(printed)]
                self.assertEqual(last(*before, cut()), [1, 3, 1, copy, step])
                self.assertEqual(last(*before, cut()), last(*before, turn()))
                self.assertEqual(last(*before, cut(), tell_sheet(1, printed + 1)),
                                 last(*before, turn(), tell_sheet(1, printed + 1)))

    def test_nothing_behind_the_sheet_happens(self):
        """The last sheet of a copy: no further copy is begun. The last of all: the output isn't done."""
        before = output_of(2, copies=2) + [start(e=9), turn(), turn()]
        self.assertEqual(self.hand(*before, cut()), [1, 1, 1, 0])
        self.assertEqual(ask(*before, cut(), *turns(3))[-4:],
                         [[1, 3, 1, 1, 2], [1, 3, 1, 1, 1], [1, 3, 1, 1, 2], [1, 3, 1, 2, 1]])
        before = output_of(1) + [start(), turn()]
        self.assertEqual(told(*before, cut(), tell_output())[1][1], [1, 1, 0, 1, 0, 1, 0, 1, 1, 1, 0])
        self.assertEqual(ask(*before, cut(), turn(), turn())[-3:], [[1, 3, 1, 1, 1], [1, 3, 1, 1, 1], [0]])

    def test_draining(self):
        """At the copy's last sheet it isn't off: nothing behind the sheet happens."""
        for count in (1, 2):
            before = output_of(1, copies=count) + [start(), turn(), stop()]
            self.assertEqual(last(*before, cut()), [1, 3, 1, 1, 1])
            self.assertEqual(told(*before, cut(), tell_writer()), (1, [[1], [1, 0, 1, 1, 2], [1, 1, 1, 0]]))
            self.assertEqual(ask(*before, cut(), turn(), turn())[-2:], [[1, 3, 1, 1, 1], [-3]])

    def test_again_and_again(self):
        before = output_of(3) + [start(), turn(), turn(), cut(), cut()]
        self.assertEqual(entries(*before), [[1, 1, 1, 1], [2, 1, 1, 2], [1], [2, 1, 1, 2], [1]])
        self.assertEqual(clean_sheets(*before, *turns(3)), [[1, 1, 1, 1], [2, 1, 1, 2], [3, 1, 1, 3]])

    def test_power_behind_it(self):
        self.same_behind(output_of(3) + [start(), turn(), turn(), cut()], power())

    def test_other_writers_lose_it_too(self):
        before = self.OTHER + output_of(5, 2) + [start(1, e=9), *turns(3)]
        self.assertTrue(self.lost(*before, cut()))
        self.assertEqual(entries(*before, cut(), writer=2), [[1, 1, 1, 1], [2, 1, 1, 2], [0]])
        self.assertEqual(entries(*before, cut(), writer=1), [[1, 2, 1, 1], [2, 2, 1, 2], [3, 2, 1, 3], [0]])

    def test_where_it_would_take_an_output(self):
        """It isn't taken; power is lost."""
        before = self.OTHER + output_of(3, 2) + [start(1)]
        self.assertEqual(last(*before, cut()), [0])
        self.assertEqual(self.hand(*before, cut()), [])
        self.assertEqual(entries(*before, cut()), [])
        self.assertEqual(last(*before, cut(), tell_output(2)), last(*before, tell_output(2)))
        self.assertTrue(self.lost(*before, cut()))
        self.assertEqual(last(*before, cut(), turn()), [2, 3, 2, 1, 1])

    def test_where_it_would_take_one_without_sheets(self):
        """It isn't done by it."""
        before = output_of(0) + [start()]
        self.assertEqual(last(*before, cut()), [0])
        self.same_behind(before, cut())
        self.assertEqual(told(*before, cut(), tell_output())[1][1][6], 0)

    def test_where_another_form_is_asked_for(self):
        before = self.OTHER + output_of(3, 2, form=7) + [start(1)]
        self.assertEqual(ask(*before, turn(), cut())[-2:], [[3, 1, 7], [0]])
        self.assertTrue(self.lost(*before, cut()))
        self.assertEqual(ask(*before, cut(), mount(1, 7), turn())[-2:], [[1], [2, 3, 2, 1, 1]])

    def test_where_there_is_nothing_to_do(self):
        before = self.OTHER + [start(1)]
        self.assertEqual(ask(*before, turn(), cut())[-2:], [[0], [0]])
        self.assertTrue(self.lost(*before, cut()))
        self.same_behind([start()], cut())
        self.same_behind(output_of(1) + [start(), turn(), turn()], cut())

    def test_with_a_full_paper_and_nothing_in_hand(self):
        before = [begin(p=2)] + output_of(1) + output_of(1, 2) + [start(), turn(), turn()]
        self.assertEqual(last(*before, cut()), [0])

    def test_the_writer_itself_goes_back_too(self):
        before = output_of(9) + [start(e=9), turn(), *turns(2), note(), turn()]
        self.assertEqual(entries(*before, cut()), [[k, 1, 1, k] for k in (1, 2, 3, 4)] + [[2]])
        self.assertEqual(self.hand(*before, cut()), [1, 1, 3, 0])


if __name__ == "__main__":
    unittest.main()
