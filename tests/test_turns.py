"""The call turn: outputs taken, sheets printed, places noted, outputs let go."""

import unittest

from paperspool.house import new_spool
from paperspool.sheets import next_sheet
from paperspool.turns import hand_back
from tests.helper import (
    Refusals,
    ask,
    begin,
    change,
    close,
    copies,
    go,
    hold,
    last,
    line,
    mount,
    open_,
    output_of,
    picture,
    purge,
    serve,
    sheets,
    spool_after,
    start,
    steps,
    stop,
    turn,
    turns,
    words,
)


def rows_printed(spool, writer=1):
    return [words(entry[4]) for entry in spool.writers[writer - 1].paper]


class Refused(Refusals, unittest.TestCase):
    def test_range(self):
        for before in ([], [start()], output_of(1) + [start(), turn()]):
            self.check_range(before, turn, "writer", 1, 8)

    def test_off(self):
        for writer in range(1, 9):
            self.refused(-3, output_of(1), turn(writer))
        self.refused(-3, [start(), stop()], turn())
        self.refused(-3, output_of(1) + [start(), turn(), stop(), turn()], turn())


class Taken(unittest.TestCase):
    def test_nothing_free(self):
        self.assertEqual(last(start(), turn()), [0])
        self.assertEqual(last(*output_of(1, klass=2), start(), turn()), [0])
        self.assertEqual(last(open_(), start(), turn()), [0])
        self.assertEqual(last(*output_of(1, held=1), start(), turn()), [0])
        self.assertEqual(last(*output_of(1), start(), turn(), turn(), turn()), [0])
        self.assertEqual(last(*output_of(1), start(1), start(2), turn(1), turn(2)), [0])

    def test_nothing_changes_where_nothing_is_free(self):
        spool = spool_after(*output_of(1, klass=2), start())
        seen = picture(spool)
        self.assertEqual(go(spool, turn()), [[0]])
        self.assertEqual(picture(spool), seen)

    def test_another_form_only(self):
        spool = spool_after(*output_of(1, form=5), *output_of(1, 2, form=6), start())
        seen = picture(spool)
        self.assertEqual(go(spool, turn(), turn()), [[3, 1, 5], [3, 1, 5]])
        self.assertEqual(picture(spool), seen)
        self.assertEqual(go(spool, mount(1, 6), turn()), [[1], [2, 3, 2, 1, 1]])

    def test_the_form_of_the_first_of_others(self):
        before = output_of(1, form=5) + output_of(1, 2, form=6, priority=1) + output_of(1, 3, form=7, priority=1)
        self.assertEqual(last(*before, start(), turn()), [3, 1, 6])

    def test_a_form_of_one_that_is_not_free_is_not_told(self):
        before = output_of(1, form=5, priority=9, held=1) + output_of(1, 2, form=6, priority=8, klass=2)
        before += output_of(1, 3, form=7)
        self.assertEqual(last(*before, start(), turn()), [3, 1, 7])

    def test_the_mounted_form_goes_before_priority(self):
        before = output_of(1, form=5, priority=15) + output_of(1, 2, form=1, priority=0)
        self.assertEqual(last(*before, start(), turn()), [2, 3, 2, 1, 1])

    def test_priority_then_number(self):
        before = output_of(0, priority=3) + output_of(0, 2, priority=15) + output_of(0, 3, priority=3)
        before += output_of(0, 4, priority=0) + output_of(0, 5, priority=15)
        told = ask(*before, start(), *turns(6))[-6:]
        self.assertEqual([answer[2:3] for answer in told], [[2], [5], [1], [3], [4], []])

    def test_the_order_is_not_that_of_closing(self):
        before = [open_(), open_(), close(2), close(1), start()]
        self.assertEqual(last(*before, turn()), [2, 3, 1, 2, 0])

    def test_any_class_of_the_list(self):
        before = output_of(0, klass=3) + output_of(0, 2, klass=7, priority=1) + output_of(0, 3, klass=8, priority=2)
        told = ask(*before, start(classes=[3, 7]), *turns(3))[-3:]
        self.assertEqual(told, [[2, 3, 2, 2, 0], [2, 3, 1, 2, 0], [0]])

    def test_first_sheet(self):
        self.assertEqual(last(*output_of(2), start(separators=0), turn()), [2, 3, 1, 1, 1])
        self.assertEqual(last(*output_of(2), start(separators=1), turn()), [2, 3, 1, 1, 0])
        self.assertEqual(last(*output_of(0), start(separators=1), turn()), [2, 3, 1, 1, 0])

    def test_what_the_writer_has_then(self):
        spool = spool_after(*output_of(2), start(e=3), turn())
        writer = spool.writers[0]
        self.assertEqual((writer.hand, writer.place, writer.noted_place, writer.since, writer.first_step),
                         (1, (1, 1), (1, 1), 0, 1))
        self.assertEqual((writer.serial, writer.noted_serial, writer.paper), (0, 0, []))
        self.assertEqual(spool.outputs[1].place, (1, 0))
        writer = spool_after(*output_of(2), start(separators=1), turn()).writers[0]
        self.assertEqual((writer.hand, writer.place, writer.noted_place, writer.first_step), (1, (1, 0), (1, 0), 0))

    def test_serials_go_on_with_the_next_output(self):
        spool = spool_after(*output_of(2), *output_of(1, 2), start(e=9), *turns(4))
        writer = spool.writers[0]
        self.assertEqual((writer.hand, writer.serial, writer.noted_serial), (2, 2, 2))
        go(spool, turn())
        self.assertEqual(sheets(spool), [(1, 1, 1, 1), (2, 1, 1, 2), (3, 2, 1, 1)])

    def test_no_next_sheet(self):
        """Without separators and pages an output is done at once, whatever its copies."""
        for count in (1, 2, 255):
            spool = spool_after(*output_of(0, copies=count), start())
            writer = picture(spool.writers)
            self.assertEqual(go(spool, turn()), [[2, 3, 1, count + 1, 0]])
            self.assertEqual(spool.outputs[1].place, (count + 1, 0))
            self.assertEqual(picture(spool.writers), writer)
            self.assertEqual(go(spool, turn()), [[0]])

    def test_from_the_trailer_on_without_separators(self):
        spool = spool_after(*output_of(1, copies=2), start())
        spool.outputs[1].place = (1, 2)
        self.assertEqual(go(spool, turn(), turn(), turn()), [[2, 3, 1, 2, 1], [1, 3, 1, 2, 1], [0]])
        spool = spool_after(*output_of(1, copies=1), start())
        spool.outputs[1].place = (1, 2)
        self.assertEqual(go(spool, turn(), turn()), [[2, 3, 1, 2, 0], [0]])

    def test_from_a_place_in_the_midst(self):
        for separators in (0, 1):
            spool = spool_after(*output_of(3), start(separators=separators))
            spool.outputs[1].place = (1, 2)
            self.assertEqual(go(spool, turn(), turn()), [[2, 3, 1, 1, 2], [1, 3, 1, 1, 2]])
        spool = spool_after(*output_of(3), start(separators=1))
        spool.outputs[1].place = (1, 4)
        self.assertEqual(go(spool, turn(), turn(), turn()), [[2, 3, 1, 1, 4], [1, 3, 1, 1, 4], [0]])

    def test_the_first_step_is_that_of_the_place(self):
        spool = spool_after(*output_of(3), start())
        spool.outputs[1].place = (1, 2)
        go(spool, turn(), turn())
        self.assertEqual((spool.writers[0].first_step, spool.writers[0].place), (2, (1, 3)))

    def test_one_that_came_free_again(self):
        before = output_of(1, held=1) + [start(), turn(), [6, 1]]
        self.assertEqual(last(*before, turn()), [2, 3, 1, 1, 1])


class NextSheet(unittest.TestCase):
    """The next sheet from a place on, at every place of three copies."""

    def found(self, pages, separators):
        output = spool_after(*output_of(pages, copies=3)).outputs[1]
        places = [(copy, step) for copy in (1, 2, 3, 4) for step in range(pages + 3)]
        return {place: next_sheet(output, place, separators) for place in places}

    def test_with_separators(self):
        self.assertEqual(self.found(0, 1), {
            (1, 0): (1, 0), (1, 1): (1, 1), (1, 2): (2, 0),
            (2, 0): (2, 0), (2, 1): (2, 1), (2, 2): (3, 0),
            (3, 0): (3, 0), (3, 1): (3, 1), (3, 2): (4, 0),
            (4, 0): (4, 0), (4, 1): (4, 0), (4, 2): (4, 0),
        })
        self.assertEqual(self.found(1, 1), {
            (1, 0): (1, 0), (1, 1): (1, 1), (1, 2): (1, 2), (1, 3): (2, 0),
            (2, 0): (2, 0), (2, 1): (2, 1), (2, 2): (2, 2), (2, 3): (3, 0),
            (3, 0): (3, 0), (3, 1): (3, 1), (3, 2): (3, 2), (3, 3): (4, 0),
            (4, 0): (4, 0), (4, 1): (4, 0), (4, 2): (4, 0), (4, 3): (4, 0),
        })

    def test_without_separators(self):
        self.assertEqual(set(self.found(0, 0).values()), {(4, 0)})
        self.assertEqual(self.found(1, 0), {
            (1, 0): (1, 1), (1, 1): (1, 1), (1, 2): (2, 1), (1, 3): (2, 1),
            (2, 0): (2, 1), (2, 1): (2, 1), (2, 2): (3, 1), (2, 3): (3, 1),
            (3, 0): (3, 1), (3, 1): (3, 1), (3, 2): (4, 0), (3, 3): (4, 0),
            (4, 0): (4, 0), (4, 1): (4, 0), (4, 2): (4, 0), (4, 3): (4, 0),
        })


class LetGo(unittest.TestCase):
    def place(self, separators, place):
        """An output's place when it's let go at this one."""
        spool = spool_after(*output_of(2, copies=3), start(separators=separators), turn())
        hand_back(spool, spool.writers[0], place)
        self.assertEqual((spool.writers[0].hand, spool.writers[0].on), (0, True))
        return spool.outputs[1].place

    def test_step_1_without_separators_is_step_0(self):
        self.assertEqual(self.place(0, (1, 1)), (1, 0))
        self.assertEqual(self.place(0, (3, 1)), (3, 0))

    def test_all_others_stay(self):
        for place in ((1, 2), (3, 2), (4, 0)):
            self.assertEqual(self.place(0, place), place)
        for place in ((1, 0), (1, 1), (1, 2), (1, 3), (3, 0), (3, 1), (4, 0)):
            self.assertEqual(self.place(1, place), place)


class Printed(unittest.TestCase):
    def test_all_sheets_in_order(self):
        """However many pages and copies, with and without separators, with any E."""
        for pages in range(4):
            for count in (1, 2, 3):
                for separators in (0, 1):
                    for every in (1, 2, 3, 1000):
                        self.check_sheets(pages, count, separators, every)

    def check_sheets(self, pages, count, separators, every):
        asked = (pages, count, separators, every)
        places = steps(pages, count, separators)
        spool = spool_after(*output_of(pages, copies=count), start(separators=separators, e=every), turn())
        for copy, step in places:
            self.assertEqual(go(spool, turn()), [[1, 3, 1, copy, step]], asked)
        self.assertEqual(go(spool, turn()), [[0]], asked)
        self.assertEqual(sheets(spool), [(k + 1, 1, *place) for k, place in enumerate(places)], asked)
        self.assertEqual(spool.outputs[1].place, (count + 1, 0), asked)

    def test_what_is_on_the_sheets(self):
        spool = spool_after(
            open_(), open_(copies=11, name="PAYROLL9"), line(2, " ", "HELLO"), close(2),
            start(separators=1), *turns(34),
        )
        found = rows_printed(spool)
        self.assertEqual(found[:4], [
            ["START PAYROLL9", "OUTPUT 2", "COPY 1"], ["HELLO"],
            ["END PAYROLL9", "OUTPUT 2", "COPY 1"],
            ["START PAYROLL9", "OUTPUT 2", "COPY 2"],
        ])
        self.assertEqual(found[30:], [
            ["START PAYROLL9", "OUTPUT 2", "COPY 11"], ["HELLO"],
            ["END PAYROLL9", "OUTPUT 2", "COPY 11"],
        ])

    def test_separators_of_an_output_without_pages(self):
        spool = spool_after(*output_of(0, copies=2), start(separators=1), *turns(5))
        self.assertEqual(rows_printed(spool), [
            ["START A", "OUTPUT 1", "COPY 1"], ["END A", "OUTPUT 1", "COPY 1"],
            ["START A", "OUTPUT 1", "COPY 2"], ["END A", "OUTPUT 1", "COPY 2"],
        ])

    def test_each_page_is_its_own_sheet(self):
        spool = spool_after(*output_of(3, copies=2), start(), *turns(7))
        self.assertEqual(rows_printed(spool), [["PAGE 1"], ["PAGE 2"], ["PAGE 3"]] * 2)

    def test_each_writer_has_its_own_paper(self):
        spool = spool_after(*output_of(1), *output_of(1, 2), start(1), start(8), *turns(1, 8), *turns(2), *turns(1, 8))
        self.assertEqual((sheets(spool, 8), sheets(spool, 1)), ([(1, 1, 1, 1)], [(1, 2, 1, 1)]))

    def test_the_outputs_own_place_stays_while_it_is_in_hand(self):
        spool = spool_after(*output_of(3, copies=2), start(), *turns(5))
        self.assertEqual(spool.outputs[1].place, (1, 0))
        self.assertEqual(spool.writers[0].place, (2, 2))


class Noted(unittest.TestCase):
    def states(self, pages, count, separators, every, printed):
        """Since, noted serial, noted place and first step behind each of so many sheets."""
        spool = spool_after(*output_of(pages, copies=count), start(separators=separators, e=every), turn())
        found = []
        for sheet in range(printed):
            go(spool, turn())
            writer = spool.writers[0]
            found.append((writer.since, writer.noted_serial, writer.noted_place, writer.first_step))
        return found

    def test_every_sheet(self):
        self.assertEqual(self.states(3, 1, 0, 1, 2), [(0, 1, (1, 2), 1), (0, 2, (1, 3), 1)])

    def test_every_other_sheet(self):
        self.assertEqual(self.states(5, 1, 0, 2, 4), [
            (1, 0, (1, 1), 1), (0, 2, (1, 3), 1), (1, 2, (1, 3), 1), (0, 4, (1, 5), 1),
        ])

    def test_every_third_sheet_with_separators(self):
        self.assertEqual(self.states(3, 1, 1, 3, 4), [
            (1, 0, (1, 0), 0), (2, 0, (1, 0), 0), (0, 3, (1, 3), 0), (1, 3, (1, 3), 0),
        ])

    def test_at_a_further_copy(self):
        self.assertEqual(self.states(2, 2, 0, 1000, 3), [
            (1, 0, (1, 1), 1), (0, 2, (2, 1), 1), (1, 2, (2, 1), 1),
        ])
        self.assertEqual(self.states(1, 2, 1, 1000, 4), [
            (1, 0, (1, 0), 0), (2, 0, (1, 0), 0), (0, 3, (2, 0), 0), (1, 3, (2, 0), 0),
        ])

    def test_at_the_end(self):
        """The hand is empty: place, noted place, since and first step are nothing; the serial is noted."""
        spool = spool_after(*output_of(2), start(e=1000), *turns(3))
        writer = spool.writers[0]
        self.assertEqual((writer.hand, writer.place, writer.noted_place, writer.since, writer.first_step),
                         (0, (0, 0), (0, 0), 0, 0))
        self.assertEqual((writer.serial, writer.noted_serial), (2, 2))
        self.assertEqual((writer.on, writer.classes, writer.form, writer.note_every), (True, [1], 1, 1000))

    def test_the_first_step_of_a_further_copy(self):
        spool = spool_after(*output_of(3, copies=2), start())
        spool.outputs[1].place = (1, 3)
        go(spool, turn())
        self.assertEqual(spool.writers[0].first_step, 3)
        go(spool, turn())
        self.assertEqual((spool.writers[0].first_step, spool.writers[0].place), (1, (2, 1)))


class Drained(Refusals, unittest.TestCase):
    def test_it_is_let_go_at_the_copys_end(self):
        """Wherever the writer is stopped, it prints the copy in hand to its end."""
        for pages in (0, 1, 2, 3):
            for count in (1, 2, 3):
                for separators in (0, 1):
                    places = steps(pages, count, separators)
                    for printed in range(len(places)):
                        self.check_drained(pages, count, separators, places, printed)

    def check_drained(self, pages, count, separators, places, printed):
        asked = (pages, count, separators, printed)
        begun = output_of(pages, copies=count) + [start(separators=separators, e=2)]
        spool = spool_after(*begun, *turns(printed + 1), stop())
        copy = places[printed][0]
        left = [place for place in places[printed:] if place[0] == copy]
        for place in left:
            self.assertTrue(spool.writers[0].on, asked)
            self.assertEqual(go(spool, turn()), [[1, 3, 1, *place]], asked)
        writer = spool.writers[0]
        self.assertEqual((writer.on, writer.form, writer.classes, writer.draining, writer.hand),
                         (False, 0, [], False, 0), asked)
        self.assertEqual(writer.serial, printed + len(left), asked)
        self.assertEqual(writer.noted_serial, writer.serial, asked)
        self.assertEqual(len(writer.paper), writer.serial, asked)
        self.assertEqual(spool.outputs[1].place, (copy + 1, 0), asked)
        self.assertEqual(go(spool, turn()), [[-3]], asked)

    def test_it_is_noted_on_the_way(self):
        spool = spool_after(*output_of(5, copies=2), start(e=2), *turns(2), stop())
        seen = []
        for sheet in range(3):
            go(spool, turn())
            writer = spool.writers[0]
            seen.append((writer.since, writer.noted_serial, writer.noted_place))
        self.assertEqual(seen, [(1, 1, (1, 2)), (0, 3, (1, 4)), (1, 3, (1, 4))])

    def test_another_writer_goes_on_with_a_header(self):
        """What was let go without separators begins its copy anew: step 0, not 1."""
        before = output_of(1, copies=2) + [start(1), turn(1), stop(1), turn(1), start(2, separators=1)]
        told = ask(*before, *turns(5, 2))[-5:]
        self.assertEqual(told, [[2, 3, 1, 2, 0], [1, 3, 1, 2, 0], [1, 3, 1, 2, 1], [1, 3, 1, 2, 2], [0]])

    def test_another_writer_goes_on_without_one(self):
        before = output_of(1, copies=2) + [start(1, separators=1), turn(1), stop(1), *turns(3), start(2)]
        self.assertEqual(ask(*before, *turns(3, 2))[-3:], [[2, 3, 1, 2, 1], [1, 3, 1, 2, 1], [0]])

    def test_without_pages_the_rest_of_the_copies_is_none(self):
        before = output_of(0, copies=3) + [start(1, separators=1), turn(1), stop(1), *turns(2), start(2)]
        self.assertEqual(ask(*before, turn(2), turn(2))[-2:], [[2, 3, 1, 4, 0], [0]])

    def test_it_may_be_purged_held_and_changed_then(self):
        before = output_of(1, copies=2) + [start(), turn(), stop(), turn()]
        for call in (purge(), hold(), change(), copies(1, 1)):
            self.accepted([0], before, call)

    def test_it_goes_by_its_own_classes_no_more(self):
        before = output_of(1, copies=2) + [start(1, classes=[1, 2]), turn(), stop(), turn()]
        self.assertEqual(ask(*before, serve(), start(1, classes=[2]), turn())[-3:], [[-3], [0], [0]])


class PaperFull(Refusals, unittest.TestCase):
    def test_as_many_entries_as_p_less_2_and_one_more(self):
        for p in (2, 3, 4, 7):
            before = [begin(p=p)] + output_of(9) + [start(), turn()] + turns(p - 2)
            self.assertEqual(last(*before, turn()), [1, 3, 1, 1, p - 1])
            self.refused(-8, before + [turn()], turn())

    def test_each_time(self):
        before = [begin(p=2)] + output_of(2) + [start(), turn(), turn()]
        self.assertEqual(ask(*before, turn(), turn())[-2:], [[-8], [-8]])

    def test_a_draining_writer(self):
        self.refused(-8, [begin(p=2)] + output_of(2) + [start(), turn(), turn(), stop()], turn())

    def test_with_nothing_in_hand_it_is_not_asked(self):
        before = [begin(p=2)] + output_of(1) + [start(), turn(), turn()]
        self.assertEqual(last(*before, turn()), [0])
        self.assertEqual(last(*before, *output_of(1, 2), turn()), [2, 3, 2, 1, 1])
        self.refused(-8, before + output_of(1, 2) + [turn()], turn())

    def test_another_writers_paper_is_not_full(self):
        before = [begin(p=2)] + output_of(1) + output_of(1, 2) + [start(), turn(), turn(), turn()]
        self.refused(-8, before, turn())
        self.accepted([1, 3, 3, 1, 1], before + output_of(1, 3) + [start(2), turn(2)], turn(2))

    def test_it_is_5000_at_first(self):
        spool = spool_after(*output_of(20, copies=255), start(), turn())
        self.assertEqual(go(spool, *turns(4999)), [[1, 3, 1, k // 20 + 1, k % 20 + 1] for k in range(4999)])
        self.assertEqual(go(spool, turn()), [[-8]])


class Invariants(unittest.TestCase):
    def test_each_page_of_each_copy_stands_just_once(self):
        """Two writers of one kind, stopped and started in many ways, share three outputs."""
        for separators in (0, 1):
            for seed in range(60):
                self.check_all_printed(separators, seed)

    def check_all_printed(self, separators, seed):
        spool = new_spool()
        go(spool, *output_of(2, copies=3), *output_of(0, 2, copies=2), *output_of(1, 3, copies=4, priority=1))
        for step in range(400):
            seed = (seed * 1103515245 + 12345) % 2 ** 31
            writer = seed // 65536 % 2 + 1
            act = seed // 262144 % 8
            call = stop(writer) if act == 0 else start(writer, 1, separators, 2) if act < 3 else turn(writer)
            go(spool, call)
        found = sorted(sheet[1:] for writer in (1, 2) for sheet in sheets(spool, writer))
        asked = ((1, 2, 3), (2, 0, 2), (3, 1, 4))
        expected = [(number, *place) for number, pages, count in asked for place in steps(pages, count, separators)]
        self.assertEqual(found, expected)


if __name__ == "__main__":
    unittest.main()
