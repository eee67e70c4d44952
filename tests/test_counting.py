"""The sheets that count: whatever happens, each page of each copy stands just once among them."""

import unittest

from paperspool.house import new_spool
from paperspool.papers import counting_sheets
from tests.helper import (
    back,
    clean_sheets,
    copies,
    cut,
    entries,
    go,
    interrupt,
    note,
    output_of,
    parts,
    power,
    serve,
    start,
    steps,
    stop,
    tell_clean,
    tell_output,
    tell_paper,
    tell_writer,
    turn,
    turns,
)


def sheet(serial):
    return (serial, 1, 1, serial, [])


class Counted(unittest.TestCase):
    """By marks alone."""

    def serials(self, *paper):
        return [entry[0] for entry in counting_sheets(list(paper))]

    def test_without_marks(self):
        self.assertEqual(self.serials(), [])
        self.assertEqual(self.serials(sheet(1), sheet(2)), [1, 2])

    def test_a_mark_takes_those_before_it_with_a_greater_serial(self):
        self.assertEqual(self.serials(sheet(1), sheet(2), sheet(3), (1,)), [1])
        self.assertEqual(self.serials(sheet(1), sheet(2), (2,)), [1, 2])
        self.assertEqual(self.serials(sheet(1), sheet(2), (0,)), [])
        self.assertEqual(self.serials((0,)), [])

    def test_those_behind_it_count(self):
        self.assertEqual(self.serials(sheet(1), sheet(2), (1,), sheet(2), sheet(3)), [1, 2, 3])

    def test_each_mark_in_its_turn(self):
        self.assertEqual(self.serials(sheet(1), sheet(2), (1,), sheet(2), sheet(3), (0,), sheet(1)), [1])
        self.assertEqual(self.serials(sheet(1), sheet(2), (0,), sheet(1), (1,)), [1])

    def test_the_later_one_of_two_with_a_serial(self):
        paper = [(1, 7, 1, 1, []), (0,), (1, 8, 1, 1, [])]
        self.assertEqual(counting_sheets(paper), [(1, 8, 1, 1, [])])

    def test_the_paper_stays(self):
        paper = [sheet(1), sheet(2), (1,)]
        counting_sheets(paper)
        self.assertEqual(paper, [sheet(1), sheet(2), (1,)])


class OneWriter(unittest.TestCase):
    """Something happens behind each sheet, and printing goes on to the end."""

    def each(self):
        for pages, count in ((0, 2), (1, 1), (1, 3), (2, 2), (3, 1), (3, 2)):
            for separators in (0, 1):
                for every in (1, 2, 3, 1000):
                    if pages > 0 or separators:
                        yield pages, count, separators, every

    def check(self, asked, *happening):
        """Each of these is a list of calls, done behind so many turns."""
        pages, count, separators, every = asked
        calls = output_of(pages, copies=count) + [start(separators=separators, e=every), turn()]
        for number, more in happening:
            calls += turns(number) + more
        calls += turns(60)
        due = [[k + 1, 1, *place] for k, place in enumerate(steps(pages, count, separators))]
        self.assertEqual(clean_sheets(*calls), due, (asked, happening))

    def test_nothing(self):
        for asked in self.each():
            self.check(asked)

    def test_once(self):
        for asked in self.each():
            for number in range(len(steps(*asked[:3]))):
                for more in ([power()], [cut()], [note()], [back()], [back(1, 2)], [back(1, 1000)], [interrupt()]):
                    self.check(asked, (number, more))

    def test_one_behind_another(self):
        all_sorts = ([power()], [cut()], [back()], [back(1, 2)], [note()], [interrupt(), turn()])
        for asked in ((3, 2, 0, 2), (2, 2, 1, 3), (3, 1, 1, 1000), (2, 3, 0, 1)):
            for number in range(6):
                for one in all_sorts:
                    for between in range(4):
                        for other in all_sorts:
                            self.check(asked, (number, one), (between, other))

    def test_stopped_and_started(self):
        for asked in self.each():
            again = [start(1, 1, asked[2], asked[3])]
            for number in range(len(steps(*asked[:3]))):
                self.check(asked, (number, [stop(), interrupt()] + again))
                self.check(asked, (number, [stop(), power(), cut()]), (30, again))
                self.check(asked, (number, [stop(), back()]), (30, again))

    def test_several_outputs_on_one_paper(self):
        for separators in (0, 1):
            for every in (1, 2, 1000):
                calls = output_of(3, copies=2) + output_of(1, 2) + output_of(2, 3)
                calls += [start(separators=separators, e=every), turn()]
                for number in range(9):
                    calls += turns(3) + [[power()], [cut()], [back(1, 2)]][number % 3]
                calls += turns(60)
                due = [[number, *place] for number, pages, count in ((1, 3, 2), (2, 1, 1), (3, 2, 1))
                       for place in steps(pages, count, separators)]
                found = clean_sheets(*calls)
                self.assertEqual([row[1:] for row in found], due)
                self.assertEqual([row[0] for row in found], list(range(1, len(due) + 1)))

    def test_what_does_not_count_stays_on_the_paper(self):
        calls = output_of(3) + [start(e=1000), turn(), *turns(2), cut(), turn(), back(), *turns(9)]
        self.assertEqual(entries(*calls), [
            [1, 1, 1, 1], [2, 1, 1, 2], [3, 1, 1, 3], [0], [1, 1, 1, 1], [0], [1, 1, 1, 1], [2, 1, 1, 2], [3, 1, 1, 3]])

    def test_further_copies_of_a_done_one(self):
        calls = output_of(2) + [start(e=9), *turns(2), cut(), *turns(3), copies(1, 2), *turns(2), power(), *turns(9)]
        self.assertEqual(clean_sheets(*calls), [[1, 1, 1, 1], [2, 1, 1, 2], [3, 1, 2, 1], [4, 1, 2, 2]])


class Numbers:
    """A row of numbers that looks like chance and is the same each time."""

    def __init__(self, seed):
        self.seed = seed

    def below(self, limit):
        self.seed = (self.seed * 6364136223846793005 + 1442695040888963407) % 2 ** 64
        return (self.seed >> 33) % limit


class SeveralWriters(unittest.TestCase):
    """Three writers share outputs, and all sorts of things happen."""

    OUTPUTS = ((1, 3, 2), (2, 0, 2), (3, 1, 4), (4, 5, 1), (5, 2, 3))

    def test_with_the_same_separators(self):
        """Every sheet stands just once."""
        for separators in (0, 1):
            for seed in range(40):
                found = sorted(self.printed(seed, [separators] * 3))
                due = [(number, *place) for number, pages, count in self.OUTPUTS
                       for place in steps(pages, count, separators)]
                self.assertEqual(found, due, (separators, seed))

    def test_with_others(self):
        """Every page stands just once, whoever prints headers and trailers."""
        pages_of = {number: pages for number, pages, count in self.OUTPUTS}
        for seed in range(80):
            found = self.printed(seed, [0, 1, seed % 2])
            found = sorted(place for place in found if 1 <= place[2] <= pages_of[place[0]])
            due = [(number, *place) for number, pages, count in self.OUTPUTS for place in steps(pages, count, 0)]
            self.assertEqual(found, due, seed)

    def printed(self, seed, separators):
        """Which sheets count on all three papers in the end."""
        numbers = Numbers(seed)
        spool = new_spool()
        for number, pages, count in self.OUTPUTS:
            go(spool, *output_of(pages, number, copies=count, priority=number % 2))
        every = 1 + numbers.below(5)
        for happening in range(150):
            writer = 1 + numbers.below(3)
            go(spool, self.call(numbers, writer, separators[writer - 1], every))
            self.check_papers(spool)
        for writer in (1, 2, 3):
            go(spool, start(writer, 1, separators[writer - 1], every))
        for number in range(100):
            for writer in (1, 2, 3):
                go(spool, start(writer, 1, separators[writer - 1], every), turn(writer))
        for number, pages, count in self.OUTPUTS:
            self.assertEqual(self.row(spool, tell_output(number), 1)[6:8], [1, 0])
        return [tuple(row[1:]) for writer in (1, 2, 3) for row in self.clean(spool, writer)]

    def call(self, numbers, writer, separators, every):
        if numbers.below(3) > 0:
            return turn(writer)
        calls = (start(writer, 1, separators, every), start(writer, 1, separators, every), stop(writer), note(writer),
                 back(writer, 1 + numbers.below(4)), interrupt(writer), power(), cut(writer),
                 serve(writer, separators, every))
        return calls[numbers.below(len(calls))]

    def row(self, spool, call, k):
        return parts(go(spool, call)[0])[1][k]

    def clean(self, spool, writer):
        return parts(go(spool, tell_clean(writer))[0])[1]

    def check_papers(self, spool):
        """The serials that count are 1, 2, 3 and so on; the writer tells how many entries its paper has."""
        for writer in (1, 2, 3):
            serials = [row[0] for row in self.clean(spool, writer)]
            self.assertEqual(serials, list(range(1, len(serials) + 1)))
            count = self.row(spool, tell_writer(writer), 1)[4]
            self.assertEqual(count, len(parts(go(spool, tell_paper(writer))[0])[1]))


if __name__ == "__main__":
    unittest.main()
