"""The calls note, back, interrupt; and a stopped writer until it's off."""

import unittest

from tests.helper import (
    Refusals,
    ask,
    back,
    begin,
    clean_sheets,
    copies,
    cut,
    entries,
    hold,
    interrupt,
    last,
    mount,
    note,
    output_of,
    power,
    purge,
    serve,
    start,
    steps,
    stop,
    tell_output,
    tell_paper,
    tell_queue,
    tell_writer,
    told,
    turn,
    turns,
)

IN_HAND = output_of(5) + [start(e=1000), turn()]
PAPER_FULL = [begin(p=2)] + output_of(3) + [start(), turn(), turn()]


class HandCase(Refusals, unittest.TestCase):
    def hand(self, *calls, writer=1):
        """What a writer has in hand: the output's number, copy, step and since; nothing: an empty list."""
        return told(*calls, tell_writer(writer))[1][2]

    def place(self, *calls, output=1):
        """An output's own place."""
        return told(*calls, tell_output(output))[1][1][9:]

    def check_refusals(self, make):
        """-1, then -3, then -6, of each call on what's in a hand."""
        for before in ([], [start()], IN_HAND, PAPER_FULL):
            self.check_range(before, make, "writer", 1, 8)
        for writer in range(1, 9):
            self.refused(-3, output_of(1), make(writer=writer))
        self.refused(-3, [start(), stop()], make())
        self.refused(-3, output_of(1) + [start(), turn(), stop(), turn()], make())
        self.refused(-3, IN_HAND, make(writer=2))
        self.refused(-6, [start()], make())
        self.refused(-6, output_of(1) + [start()], make())
        self.refused(-6, output_of(0) + [start(), turn()], make())
        self.refused(-6, output_of(1) + [start(), turn(), turn()], make())
        self.refused(-6, IN_HAND + [interrupt()], make())
        self.refused(-6, IN_HAND + [start(2)], make(writer=2))
        self.refused(-6, [begin(p=2)] + output_of(1) + [start(), turn(), turn()], make())


class Note(HandCase):
    def test_refusals(self):
        self.check_refusals(note)

    def test_answers_what_since_was(self):
        for printed in range(5):
            self.assertEqual(last(*IN_HAND, *turns(printed), note()), [printed])
            self.assertEqual(ask(*IN_HAND, *turns(printed), note(), note())[-2:], [[printed], [0]])

    def test_since_is_0_and_all_else_stays(self):
        before = IN_HAND + turns(3)
        self.assertEqual(self.hand(*before), [1, 1, 4, 3])
        self.assertEqual(self.hand(*before, note()), [1, 1, 4, 0])
        self.assertEqual(entries(*before, note()), entries(*before))
        self.assertEqual(self.place(*before, note()), [1, 0])

    def test_power_goes_back_to_it(self):
        before = IN_HAND + turns(2) + [note()] + turns(2)
        self.assertEqual(self.hand(*before), [1, 1, 5, 2])
        self.assertEqual(self.hand(*before, power()), [1, 1, 3, 0])
        self.assertEqual(entries(*before, power())[-1], [2])

    def test_it_counts_to_e_anew(self):
        before = output_of(6) + [start(e=3), turn(), *turns(2), note()]
        self.assertEqual([self.hand(*before, *turns(count))[3] for count in range(4)], [0, 1, 2, 0])

    def test_on_a_full_paper(self):
        self.accepted([0], PAPER_FULL, note())
        self.accepted([1], [begin(p=2)] + output_of(3) + [start(e=2), turn(), turn()], note())

    def test_draining(self):
        before = IN_HAND + [turn(), stop(), turn()]
        self.assertEqual(last(*before, note()), [1])
        self.assertEqual(told(*before, note(), tell_writer()), (1, [[1], [1, 0, 1000, 1, 2], [1, 1, 3, 0]]))

    def test_each_writer_for_itself(self):
        before = output_of(3) + output_of(3, 2) + [start(1, e=9), start(2, e=9), *turns(2, 1), *turns(3, 2)]
        self.assertEqual(ask(*before, note(2), note(1))[-2:], [[2], [1]])
        self.assertEqual(self.hand(*before, note(2)), [1, 1, 2, 1])


class Back(HandCase):
    def test_refusals(self):
        self.check_refusals(back)

    def test_range_of_k(self):
        for before in ([], [start()], IN_HAND, PAPER_FULL):
            self.check_range(before, back, "k", 1, 1000)

    def test_order_of_refusals(self):
        for before in ([], [start()], IN_HAND, PAPER_FULL):
            self.refused(-1, before, back(1, 0))
            self.refused(-1, before, back(1, 1001))
            self.refused(-1, before, back(9, 1))
        self.refused(-3, PAPER_FULL, back(2, 1))
        self.refused(-6, PAPER_FULL + [interrupt()], back(1, 1))
        self.refused(-8, PAPER_FULL, back(1, 1))

    def test_fewer_as_many_and_more(self):
        """Three sheets are printed: the place is step 4, the first step 1."""
        before = IN_HAND + turns(3)
        for k, b in ((1, 1), (2, 2), (3, 3), (4, 3), (1000, 3)):
            self.assertEqual(last(*before, back(1, k)), [b])
            self.assertEqual(self.hand(*before, back(1, k)), [1, 1, 4 - b, 0])
            self.assertEqual(entries(*before, back(1, k)),
                             [[1, 1, 1, 1], [2, 1, 1, 2], [3, 1, 1, 3], [3 - b]])
            self.assertEqual(ask(*before, back(1, k), turn())[-1], [1, 3, 1, 1, 4 - b])
            self.assertEqual(entries(*before, back(1, k), turn())[-1], [4 - b, 1, 1, 4 - b])

    def test_b_of_0(self):
        """There's no mark then."""
        self.assertEqual(last(*IN_HAND, back(1, 1)), [0])
        self.same_behind(IN_HAND, back(1, 1000))
        self.assertEqual(ask(*IN_HAND, turn(), back(1, 9), back(1, 9))[-2:], [[1], [0]])
        self.assertEqual(entries(*IN_HAND, turn(), back(1, 9), back(1, 9)), [[1, 1, 1, 1], [0]])
        self.same_behind(IN_HAND + [turn(), power()], back(1, 1))

    def test_down_to_a_header(self):
        before = output_of(2) + [start(separators=1), *turns(3)]
        self.assertEqual(ask(*before, back(1, 9), turn())[-2:], [[2], [1, 3, 1, 1, 0]])
        self.assertEqual(entries(*before, back(1, 9), turn()),
                         [[1, 1, 1, 0], [2, 1, 1, 1], [0], [1, 1, 1, 0]])

    def test_from_a_trailer(self):
        before = output_of(1) + [start(separators=1), *turns(3)]
        self.assertEqual(self.hand(*before), [1, 1, 2, 0])
        self.assertEqual(ask(*before, back(), turn(), turn())[-3:], [[1], [1, 3, 1, 1, 1], [1, 3, 1, 1, 2]])

    def test_not_into_the_copy_before(self):
        before = output_of(2, copies=3) + [start(), *turns(4)]
        self.assertEqual(self.hand(*before), [1, 2, 2, 0])
        self.assertEqual(ask(*before, back(1, 9), back(1, 9), turn())[-3:], [[1], [0], [1, 3, 1, 2, 1]])
        at_the_copys_end = output_of(2, copies=3) + [start(), *turns(3)]
        self.assertEqual(last(*at_the_copys_end, back(1, 9)), [0])

    def test_not_before_the_step_at_which_it_was_taken(self):
        """Whoever has printed the steps before, they stay."""
        before = IN_HAND + [*turns(2), interrupt()]
        for writer, more in ((1, []), (2, [start(2)])):
            taken = before + more + [turn(writer)]
            self.assertEqual(last(*taken), [2, 3, 1, 1, 3])
            self.assertEqual(last(*taken, back(writer, 9)), [0])
            self.assertEqual(last(*taken, *turns(2, writer), back(writer, 9)), [2])
            self.assertEqual(self.hand(*taken, *turns(2, writer), back(writer, 9), writer=writer), [1, 1, 3, 0])

    def test_the_first_step_of_a_further_copy(self):
        """Taken in the midst of a copy, it goes back to the next copy's first step all the same."""
        for separators, first in ((0, 1), (1, 0)):
            before = output_of(3, copies=2) + [start(separators=separators), turn(), *turns(3), interrupt(), turn()]
            while self.hand(*before)[1:3] != [2, 3]:
                before.append(turn())
            self.assertEqual(last(*before, back(1, 9)), [3 - first])
            self.assertEqual(self.hand(*before, back(1, 9)), [1, 2, first, 0])

    def test_the_first_step_stays_by_power_note_and_back(self):
        before = output_of(6) + [start(e=3), turn(), turn(), interrupt(), turn()]
        for between in ([power()], [turn(), note()], [turn(), back()], [turn(), power()], [cut()], [turn(), stop()]):
            gone_on = before + between + [turn()]
            self.assertEqual(self.hand(*gone_on, back(1, 9)), [1, 1, 2, 0], between)

    def test_behind_a_noted_place(self):
        """Back goes on from the place, not from the noted one, and it's noted then."""
        for noted in range(4):
            before = IN_HAND + turns(noted) + [note()] + turns(3 - noted)
            for k in (1, 2, 3):
                gone_back = before + [back(1, k)]
                self.assertEqual(self.hand(*gone_back), [1, 1, 4 - k, 0])
                self.assertEqual(self.hand(*gone_back, power()), [1, 1, 4 - k, 0])
                self.assertEqual(entries(*gone_back, turn(), power())[-2:], [[4 - k, 1, 1, 4 - k], [3 - k]])

    def test_it_is_noted_where_it_came_to(self):
        before = output_of(6) + [start(e=3), turn(), *turns(2), back(1, 1)]
        self.assertEqual([self.hand(*before, *turns(count))[3] for count in range(4)], [0, 1, 2, 0])
        self.assertEqual(self.hand(*before, *turns(2), power()), [1, 1, 2, 0])

    def test_each_time_a_mark(self):
        before = IN_HAND + turns(4)
        self.assertEqual(entries(*before, back(), back(), back())[4:], [[3], [2], [1]])
        self.assertEqual(entries(*before, back(), power())[4:], [[3]])

    def test_serials_of_an_output_behind_another(self):
        before = output_of(2) + output_of(3, 2) + [start(), *turns(3), *turns(3)]
        self.assertEqual(self.hand(*before), [2, 1, 3, 0])
        self.assertEqual(entries(*before, back(1, 9), turn())[4:], [[2], [3, 2, 1, 1]])

    def test_the_papers_room(self):
        """Refused with more than P - 2 entries, by a b of 0 too."""
        for p in (3, 4, 7):
            before = [begin(p=p)] + output_of(9) + [start(), turn(), *turns(p - 2)]
            self.accepted([1], before, back())
            self.refused(-8, before + [turn()], back())
            self.refused(-8, before + [back()], back())
            self.assertEqual(len(entries(*before, back())), p - 1)
        at_the_first_step = [begin(p=2)] + output_of(1, copies=2) + [start(), turn(), turn()]
        self.assertEqual(self.hand(*at_the_first_step), [1, 2, 1, 0])
        self.refused(-8, at_the_first_step, back())
        self.accepted([0], [begin(p=2)] + output_of(1) + [start(), turn()], back())
        self.refused(-8, [begin(p=2)] + output_of(1) + [start(), turn(), power()], back())

    def test_draining(self):
        before = output_of(2, copies=2) + [start(), turn(), turn(), stop(), back()]
        self.assertEqual(last(*before), [1])
        self.assertEqual(told(*before, tell_writer()), (1, [[1], [1, 0, 1, 1, 2], [1, 1, 1, 0]]))
        self.assertEqual(ask(*before, *turns(3))[-3:], [[1, 3, 1, 1, 1], [1, 3, 1, 1, 2], [-3]])

    def test_other_writers_stay(self):
        before = output_of(3) + output_of(3, 2) + [start(1), start(2, e=9), *turns(3, 1), *turns(3, 2)]
        self.assertEqual(self.hand(*before, back(1, 2), writer=2), [2, 1, 3, 2])
        self.assertEqual(entries(*before, back(1, 2), writer=2), [[1, 2, 1, 1], [2, 2, 1, 2]])


class Interrupt(HandCase):
    def test_refusals(self):
        self.check_refusals(interrupt)

    def test_answers_the_outputs_number(self):
        self.assertEqual(last(*IN_HAND, interrupt()), [1])
        self.assertEqual(last(*output_of(1), *output_of(1, 2, priority=1), start(8), turn(8), interrupt(8)), [2])

    def test_at_every_place(self):
        """It's let go at the writer's place, but step 1 without separators is step 0."""
        for pages, separators in ((0, 1), (1, 0), (1, 1), (3, 0), (3, 1)):
            for every in (1, 2, 1000):
                for printed, (copy, step) in enumerate(steps(pages, 2, separators)):
                    before = output_of(pages, copies=2) + [start(separators=separators, e=every), turn()]
                    before += turns(printed) + [interrupt()]
                    asked = (pages, separators, every, printed)
                    due = 0 if step == 1 and not separators else step
                    self.assertEqual(self.place(*before), [copy, due], asked)
                    self.assertEqual(self.hand(*before), [], asked)
                    self.assertEqual(len(entries(*before)), printed, asked)
                    self.assertEqual(last(*before, turn()), [2, 3, 1, copy, step], asked)

    def test_what_is_left(self):
        before = IN_HAND + [*turns(2), interrupt()]
        self.assertEqual(told(*before, tell_writer()), (1, [[1], [1, 0, 1000, 0, 2], []]))
        self.assertEqual(told(*before, tell_output())[1][1], [1, 1, 0, 1, 0, 1, 0, 0, 5, 1, 3])
        self.assertEqual(last(*before, tell_queue()), [1, 1, 1])

    def test_what_was_printed_counts_by_it(self):
        """The serial is noted: power behind it takes nothing back."""
        before = IN_HAND + [*turns(2), interrupt()]
        self.same_behind(before, power())
        self.assertEqual(entries(*before, turn(), power()), [[1, 1, 1, 1], [2, 1, 1, 2], [2]])
        self.assertEqual(clean_sheets(*before, turn(), power()), [[1, 1, 1, 1], [2, 1, 1, 2]])

    def test_what_may_be_done_then(self):
        before = IN_HAND + [*turns(2), interrupt()]
        for call in (purge(), hold(), serve(1, 1, 1, [1]), stop(), copies(1, 3)):
            self.accepted([0], before, call)
        self.accepted([1], before, mount(1, 7))
        self.refused(-6, output_of(1, copies=2) + [start(separators=1), *turns(5), interrupt()], copies(1, 1))

    def test_copies_begun(self):
        """Step 1 without separators is step 0: nothing of that copy is begun."""
        before = output_of(2, copies=3) + [start(), *turns(3)]
        self.accepted([0], before + [interrupt()], copies(1, 1))
        self.refused(-6, before + [turn(), interrupt()], copies(1, 1))
        self.accepted([0], before + [turn(), interrupt()], copies(1, 2))

    def test_a_greater_priority_goes_first_then(self):
        before = IN_HAND + [turn()] + output_of(1, 2, priority=1) + [interrupt()]
        self.assertEqual(ask(*before, *turns(3))[-3:], [[2, 3, 2, 1, 1], [1, 3, 2, 1, 1], [2, 3, 1, 1, 2]])

    def test_draining(self):
        before = IN_HAND + [turn(), stop(), turn()]
        self.assertEqual(last(*before, interrupt()), [1])
        self.assertEqual(told(*before, interrupt(), tell_writer()), (0, [[], [0, 0, 0, 0, 2], []]))
        self.assertEqual(self.place(*before, interrupt()), [1, 3])
        self.assertEqual(ask(*before, interrupt(), turn(), start(), turn(), turn())[-4:],
                         [[-3], [0], [2, 3, 1, 1, 3], [1, 3, 1, 1, 3]])

    def test_on_a_full_paper(self):
        self.accepted([1], PAPER_FULL, interrupt())

    def test_behind_power(self):
        """The writer's place is the noted one then."""
        before = IN_HAND + [*turns(2), note(), *turns(2), power(), interrupt()]
        self.assertEqual(self.place(*before), [1, 3])


class GoingOn(HandCase):
    """Interrupted at each place, another writer goes on, each with and without separators."""

    def test_each_place(self):
        for pages in (1, 2, 3):
            for one in (0, 1):
                for other in (0, 1):
                    for printed in range(len(steps(pages, 2, one))):
                        self.check_going_on(pages, one, other, printed)

    def check_going_on(self, pages, one, other, printed):
        asked = (pages, one, other, printed)
        before = output_of(pages, copies=2) + [start(1, separators=one, e=2), turn(), *turns(printed), interrupt()]
        before += [start(2, separators=other, e=2), *turns(20, 2)]
        copy, step = steps(pages, 2, one)[printed]
        if step == 1 and not one:
            step = 0
        left = [place for place in steps(pages, 2, other) if place >= (copy, step)]
        found = [tuple(sheet[2:]) for sheet in clean_sheets(*before, writer=2)]
        self.assertEqual(found, left, asked)
        whole = [tuple(sheet[2:]) for sheet in clean_sheets(*before, writer=1)] + found
        self.assertEqual([place for place in whole if 1 <= place[1] <= pages], steps(pages, 2, 0), asked)
        self.assertEqual(told(*before, tell_output())[1][1][6:8], [1, 0], asked)

    def test_a_header_behind_the_first_page_is_not_printed(self):
        before = output_of(2) + [start(1), turn(1), turn(1), interrupt(1), start(2, separators=1)]
        self.assertEqual(ask(*before, *turns(4, 2))[-4:],
                         [[2, 3, 1, 1, 2], [1, 3, 1, 1, 2], [1, 3, 1, 1, 3], [0]])

    def test_a_trailer_alone_is_left(self):
        """With separators it's printed, without them there's nothing to do."""
        before = output_of(1) + [start(1, separators=1), *turns(3), interrupt(1)]
        self.assertEqual(ask(*before, start(2, separators=1), *turns(3, 2))[-3:],
                         [[2, 3, 1, 1, 2], [1, 3, 1, 1, 2], [0]])
        self.assertEqual(ask(*before, start(2), *turns(2, 2))[-2:], [[2, 3, 1, 2, 0], [0]])
        self.assertEqual(told(*before, start(2), turn(2), tell_output())[1][1][6:], [1, 0, 1, 2, 0])

    def test_a_trailer_of_a_copy_that_is_not_the_last(self):
        before = output_of(1, copies=2) + [start(1, separators=1), *turns(3), interrupt(1)]
        self.assertEqual(ask(*before, start(2), *turns(3, 2))[-3:], [[2, 3, 1, 2, 1], [1, 3, 1, 2, 1], [0]])

    def test_without_pages(self):
        before = output_of(0, copies=2) + [start(1, separators=1), turn(), turn(), interrupt(1)]
        self.assertEqual(ask(*before, start(2), *turns(2, 2))[-2:], [[2, 3, 1, 3, 0], [0]])
        self.assertEqual(ask(*before, start(2, separators=1), *turns(4, 2))[-4:],
                         [[2, 3, 1, 1, 1], [1, 3, 1, 1, 1], [1, 3, 1, 2, 0], [1, 3, 1, 2, 1]])

    def test_the_same_writer_with_others(self):
        """Interrupted, told to print separators, it goes on with them."""
        before = output_of(2) + [start(), turn(), interrupt(), serve(1, 1, 1, [1])]
        self.assertEqual(ask(*before, *turns(2))[-2:], [[2, 3, 1, 1, 0], [1, 3, 1, 1, 0]])
        before = output_of(2) + [start(), turn(), turn(), interrupt(), serve(1, 1, 1, [1])]
        self.assertEqual(last(*before, turn()), [2, 3, 1, 1, 2])


class Stopped(HandCase):
    """A writer stopped with an output in hand, until it's off."""

    BEFORE = output_of(3, copies=2) + [start(1, 4, 0, 1000, [1, 2]), mount(1, 1), turn(), turn(), stop()]

    def test_it_drains(self):
        self.assertEqual(last(*self.BEFORE), [1])
        self.assertEqual(told(*self.BEFORE, tell_writer()), (1, [[1, 2], [1, 0, 1000, 1, 1], [1, 1, 2, 0]]))

    def test_turns_until_it_is_off(self):
        self.assertEqual(ask(*self.BEFORE, *turns(3))[-3:], [[1, 3, 1, 1, 2], [1, 3, 1, 1, 3], [-3]])
        self.assertEqual(told(*self.BEFORE, turn(), tell_writer()), (1, [[1, 2], [1, 0, 1000, 1, 2], [1, 1, 3, 1]]))
        self.assertEqual(told(*self.BEFORE, *turns(2), tell_writer()), (0, [[], [0, 0, 0, 0, 3], []]))
        self.assertEqual(self.place(*self.BEFORE, *turns(2)), [2, 0])

    def test_turns_of_the_last_copy(self):
        before = output_of(2) + [start(), turn(), stop(), turn(), turn()]
        self.assertEqual(told(*before, tell_writer()), (0, [[], [0, 0, 0, 0, 2], []]))
        self.assertEqual(self.place(*before), [2, 0])

    def test_power_leaves_it_draining(self):
        """It was noted when it was stopped."""
        before = self.BEFORE + [turn(), power()]
        self.assertEqual(told(*before, tell_writer()), (1, [[1, 2], [1, 0, 1000, 1, 3], [1, 1, 2, 0]]))
        self.assertEqual(entries(*before), [[1, 1, 1, 1], [2, 1, 1, 2], [1]])
        self.assertEqual(ask(*before, *turns(3))[-3:], [[1, 3, 1, 1, 2], [1, 3, 1, 1, 3], [-3]])
        self.assertEqual(clean_sheets(*before, *turns(2)), [[1, 1, 1, 1], [2, 1, 1, 2], [3, 1, 1, 3]])

    def test_interrupt_switches_it_off(self):
        for more, place in (([], [1, 2]), ([turn()], [1, 3]), ([turn(), power()], [1, 2]), ([back()], [1, 0])):
            before = self.BEFORE + more + [interrupt()]
            answer, rows = told(*before, tell_writer())
            self.assertEqual((answer, rows[0], rows[1][:4], rows[2]), (0, [], [0, 0, 0, 0], []), more)
            self.assertEqual(self.place(*before), place, more)
            self.assertEqual(ask(*before, turn(), stop(), note())[-3:], [[-3], [-3], [-3]], more)

    def test_stopped_again(self):
        for more in ([], [turn()], [power()], [note()], [back()], [cut()]):
            self.refused(-5, self.BEFORE + more, stop())

    def test_on_again_it_is_not_draining(self):
        for more in (turns(2), [interrupt()], [turn(), power(), interrupt()]):
            before = self.BEFORE + more + [start(1, 2, 1, 3, [5])]
            paper = told(*before, tell_paper())[0]
            self.assertEqual(told(*before, tell_writer()), (1, [[5], [2, 1, 3, 0, paper], []]), more)


if __name__ == "__main__":
    unittest.main()
