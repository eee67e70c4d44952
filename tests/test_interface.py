"""paperspool.house.answers(calls): how calls are handed in and answers given back."""

import contextlib
import inspect
import io
import unittest

import paperspool.house
from paperspool.house import answers
from tests.helper import (
    GREATEST,
    LEAST,
    back,
    begin,
    change,
    close,
    copies,
    cut,
    everything,
    hold,
    interrupt,
    joined,
    letgo,
    line,
    mount,
    note,
    open_,
    output_of,
    power,
    purge,
    serve,
    split,
    start,
    stop,
    tell_clean,
    tell_page,
    tell_paper,
    tell_queue,
    tell_sheet,
    tell_writer,
    turn,
    turns,
)

EVERY_CALL = [
    begin(), open_(), line(), close(), hold(), letgo(), change(), copies(), start(), serve(), mount(),
    turn(), turn(), stop(), purge(), turn(), open_(name=""), line(9), start(1, 1, 1, 1, []),
    *output_of(3, 2, copies=2), start(1, 1, 1, 3), *turns(4), note(), back(1, 2), turn(), power(), turn(), cut(),
    interrupt(), turn(), stop(), tell_sheet(), tell_page(2, 2), *everything(), *turns(4), *everything(),
]


class Untouched(list):
    """A list that can't be changed."""

    def fail(self, *told):
        raise AssertionError("what was handed in is changed")

    append = extend = insert = pop = remove = clear = reverse = sort = fail
    __setitem__ = __delitem__ = __iadd__ = __imul__ = fail


class Form(unittest.TestCase):
    def test_one_argument_called_calls(self):
        self.assertEqual(list(inspect.signature(paperspool.house.answers).parameters), ["calls"])

    def test_numbers_of_the_calls_as_they_stand(self):
        self.assertEqual(
            answers([
                0, 3, 2, 9,
                1, 4, 5, 2, 6, 1, 2, 65, 66,
                2, 1, 32, 3, 72, 73, 32,
                2, 1, 49, 0,
                3, 1,
                6, 1,
                5, 1,
                6, 1,
                7, 1, 8, 5, 15,
                8, 1, 1,
                9, 2, 7, 1, 10, 2, 3, 4,
                10, 2, 0, 10, 1, 8,
                13, 2,
                11, 2, 5,
                13, 2,
                13, 2,
                12, 2,
                13, 2,
                4, 1,
                13, 2,
            ]),
            [
                1, 0,
                1, 1,
                1, 1,
                1, 2,
                1, 2,
                1, 0,
                1, 0,
                1, 0,
                1, 0,
                1, 0,
                1, 0,
                1, 0,
                3, 3, 1, 5,
                1, 7,
                5, 2, 3, 1, 1, 1,
                5, 1, 3, 1, 1, 1,
                1, 1,
                5, 1, 3, 1, 1, 2,
                1, 0,
                1, -3,
            ],
        )

    def test_numbers_of_the_further_calls_as_they_stand(self):
        self.assertEqual(
            answers([
                1, 4, 5, 2, 6, 0, 2, 65, 66,
                2, 1, 48, 2, 72, 73,
                19, 1,
                20, 1, 1,
                2, 1, 49, 0,
                3, 1,
                21, 1,
                22, 4,
                22, 5,
                9, 2, 5, 0, 9, 2, 3, 4,
                18, 2,
                13, 2,
                22, 4,
                13, 2,
                23, 2,
                14, 2,
                15, 2, 1,
                18, 2,
                24, 2, 1, 100,
                25, 2, 1,
                25, 2, 2,
                13, 2,
                26, 2, 1, 100,
                17,
                16, 2,
                21, 1,
                23, 2,
                23, 1,
                24, 2, 5, 2,
                26, 2, 2, 1,
            ]),
            [
                1, 1,
                1, 1,
                1, 1,
                5, 2, 0, 2, 72, 73,
                1, 2,
                1, 2,
                16, 0, 2, 65, 66, 11, 4, 5, 6, 2, 0, 1, 0, 0, 2, 1, 0,
                3, 1, 1, 1,
                2, 0, 0,
                1, 0,
                1, 0,
                5, 2, 3, 1, 1, 1,
                2, 0, 0,
                5, 1, 3, 1, 1, 1,
                15, 1, 2, 3, 4, 5, 5, 0, 9, 0, 1, 4, 1, 1, 2, 1,
                1, 1,
                1, 1,
                5, 1, 3, 1, 1, 1,
                15, 4, 4, 1, 1, 1, 1, 1, 0, 4, 1, 1, 1, 1, 1, 0,
                5, 2, 0, 2, 72, 73,
                1, -6,
                5, 1, 3, 1, 1, 1,
                6, 1, 4, 1, 1, 1, 1,
                1, 0,
                1, 1,
                16, 0, 2, 65, 66, 11, 4, 5, 6, 2, 0, 1, 0, 0, 2, 1, 0,
                11, 1, 2, 3, 4, 5, 5, 0, 9, 0, 6, 0,
                9, 0, 0, 5, 0, 0, 0, 0, 0, 0,
                8, 2, 4, 1, 1, 1, 1, 1, 0,
                1, 0,
            ],
        )

    def test_rows_that_are_empty(self):
        self.assertEqual(answers(tell_queue(1)), [2, 0, 0])
        self.assertEqual(answers(tell_writer(8)), [9, 0, 0, 5, 0, 0, 0, 0, 0, 0])
        self.assertEqual(answers(tell_paper() + tell_clean()), [1, 0, 1, 0])
        self.assertEqual(answers(joined([open_(), line(1, "0", ""), tell_page()]))[4:], [3, 2, 0, 0])

    def test_power_has_no_numbers(self):
        self.assertEqual(answers([17]), [1, 0])
        self.assertEqual(answers([17, 17, 17, 23, 9]), [1, 0, 1, 0, 1, 0, 1, -1])

    def test_cuts_as_told(self):
        self.assertEqual(answers(joined([start(), cut()])), [1, 0, 1, 0])
        self.assertEqual(answers(joined(output_of(1) + [start(), turn(), cut()]))[-6:], [5, 1, 3, 1, 1, 1])

    def test_turns_as_told(self):
        self.assertEqual(answers(joined([start(), turn()])), [1, 0, 1, 0])
        self.assertEqual(answers(joined(output_of(0, form=9) + [start(), turn()])), [1, 1, 1, 0, 1, 0, 3, 3, 1, 9])
        self.assertEqual(answers(joined(output_of(0) + [start(), turn()]))[-6:], [5, 2, 3, 1, 2, 0])
        self.assertEqual(answers(joined(output_of(1) + [start(), turn(), turn()]))[-6:], [5, 1, 3, 1, 1, 1])

    def test_a_refusal_is_one_number(self):
        self.assertEqual(answers([13, 9]), [1, -1])
        self.assertEqual(answers([13, 1]), [1, -3])
        self.assertEqual(answers([3, 1, 3, 0, 4, 1]), [1, -4, 1, -1, 1, -4])
        self.assertEqual(answers([14, 1, 15, 1, 1, 16, 1, 18, 1, 19, 1, 20, 1, 1, 21, 1, 25, 1, 1]),
                         [1, -3, 1, -3, 1, -3, 1, -3, 1, -4, 1, -4, 1, -4, 1, -4])

    def test_rows_are_read_whole_where_a_call_is_refused(self):
        calls = [open_(klass=0, name="A" * 40), line(1, 32, [3] * 200), start(9, classes=[LEAST] * 40),
                 serve(1, classes=[GREATEST] * 40), open_(name=[]), open_()]
        self.assertEqual(answers(joined(calls)), [1, -1, 1, -4, 1, -1, 1, -3, 1, -2, 1, 1])

    def test_whole_numbers_only(self):
        calls = EVERY_CALL + [open_(held=1)] + output_of(2) + [start(separators=1), turn(), turn(), stop()]
        for number in answers(joined(calls)):
            self.assertIs(type(number), int)
        self.assertIs(type(answers([0, 1, 1, 2])), list)

    def test_150_calls(self):
        self.assertEqual(answers([1, 1, 1, 1, 0, 0, 1, 65] * 150), [number for k in range(150) for number in (1, k + 1)])

    def test_150_calls_with_long_answers(self):
        calls = output_of(97) + [start()] + turns(49) + [tell_paper()]
        self.assertEqual(len(calls), 150)
        self.assertEqual(answers(joined(calls))[-242:], [241, 48] + joined([4, k, 1, 1, k] for k in range(1, 49)))

    def test_each_call_has_its_answer(self):
        self.assertEqual(len(split(answers(joined(EVERY_CALL)))), len(EVERY_CALL))
        self.assertEqual({call[0] for call in EVERY_CALL}, set(range(27)))

    def test_16000_numbers(self):
        calls = joined([open_()] + [line(1, 49, "A" * 132) for number in range(100)])
        calls += joined([line(1, 49, "A" * 46) for number in range(47)] + [close(), start()])
        self.assertLessEqual(len(calls), 16000)
        told = answers(calls)
        self.assertEqual(told[-4:], [1, 100, 1, 0])

    def test_wide_numbers_everywhere(self):
        """Each call with the least and the greatest number in every place is refused by -1, but a code alone."""
        for value in (LEAST, GREATEST):
            for call, numbers in ((0, 3), (3, 1), (4, 1), (5, 1), (6, 1), (7, 4), (8, 2), (11, 2), (12, 1), (13, 1),
                                  (14, 1), (15, 2), (16, 1), (18, 1), (19, 1), (20, 2), (21, 1), (22, 1), (23, 1),
                                  (24, 3), (25, 2), (26, 3)):
                self.assertEqual(answers([call] + [value] * numbers), [1, -1])
            for call, numbers in ((1, 5), (2, 2), (9, 4), (10, 3)):
                self.assertEqual(answers([call] + [value] * numbers + [1, 65]), [1, -1])


class NothingKept(unittest.TestCase):
    def test_the_list_is_the_same_after_the_call(self):
        calls = joined(EVERY_CALL)
        before = list(calls)
        answers(calls)
        self.assertEqual(calls, before)

    def test_the_list_is_not_changed_for_a_while_either(self):
        calls = joined(EVERY_CALL)
        self.assertEqual(answers(Untouched(calls)), answers(calls))

    def test_a_second_call_starts_anew(self):
        for calls in (joined(EVERY_CALL), joined(output_of(2, copies=3) + [start(), turn(), turn()]),
                      joined([open_()]), joined(output_of(2) + [start(), turn(), cut(), power(), *everything()])):
            first = answers(calls)
            told = list(first)
            first.append(99)
            self.assertEqual(answers(calls), told)

    def test_numbers_writers_and_limits_start_anew(self):
        answers(joined([begin(1, 1, 2), open_(), start()]))
        self.assertEqual(answers(joined([open_(), open_(), line(1), line(1), close(1), start()])),
                         [1, 1, 1, 2, 1, 1, 1, 2, 1, 1, 1, 0])

    def test_papers_and_outputs_start_anew(self):
        asked = joined(everything())
        new = answers(asked)
        answers(joined(output_of(2) + [start(e=9), turn(), turn(), power(), interrupt(), stop()]))
        self.assertEqual(answers(asked), new)

    def test_nothing_is_printed(self):
        printed = io.StringIO()
        with contextlib.redirect_stdout(printed), contextlib.redirect_stderr(printed):
            answers(joined(EVERY_CALL))
        self.assertEqual(printed.getvalue(), "")


if __name__ == "__main__":
    unittest.main()
