"""The calls on one house, handed in as one list of whole numbers."""

from paperspool.outputcalls import (
    add_line,
    begin,
    change,
    close,
    hold,
    letgo,
    open_output,
    purge,
    set_copies,
)
from paperspool.questions import (
    tell_clean,
    tell_output,
    tell_page,
    tell_pages,
    tell_paper,
    tell_queue,
    tell_sheet,
    tell_writer,
)
from paperspool.spool import Spool
from paperspool.writercalls import back, cut, interrupt, mount, note, power, serve, start, stop, turn

# By a call's number: how many whole numbers it has, and whether a row behind them.
SHAPES = (
    (3, False),  # begin
    (5, True),  # open
    (2, True),  # line
    (1, False),  # close
    (1, False),  # purge
    (1, False),  # hold
    (1, False),  # letgo
    (4, False),  # change
    (2, False),  # copies
    (4, True),  # start
    (3, True),  # serve
    (2, False),  # mount
    (1, False),  # stop
    (1, False),  # turn
    (1, False),  # note
    (2, False),  # back
    (1, False),  # interrupt
    (0, False),  # power
    (1, False),  # cut
    (1, False),  # pages
    (2, False),  # page
    (1, False),  # output
    (1, False),  # queue
    (1, False),  # writer
    (3, False),  # paper
    (2, False),  # sheet
    (3, False),  # clean
)
FIRST_WRITER_CALL = 9
FIRST_QUESTION = 19


# A slice of the list is a copy: what's handed in stays as it is.
class Reader:
    def __init__(self, calls):
        self.calls = calls
        self.position = 0

    def is_at_end(self):
        return self.position >= len(self.calls)

    def take_one(self):
        self.position += 1
        return self.calls[self.position - 1]

    def take(self, size):
        self.position += size
        return self.calls[self.position - size:self.position]


def answers(calls):
    return answers_of(new_spool(), calls)


def new_spool():
    return Spool(60, 200, 5000)


def answers_of(spool, calls):
    reader = Reader(calls)
    told = []
    while not reader.is_at_end():
        answer = answer_next(spool, reader)
        told.append(len(answer))
        told.extend(answer)
    return told


def answer_next(spool, reader):
    call = reader.take_one()
    shape = SHAPES[call]
    numbers = reader.take(shape[0])
    row = []
    if shape[1]:
        row = reader.take(reader.take_one())
    if call < FIRST_WRITER_CALL:
        return answer_on_outputs(spool, call, numbers, row)
    if call < FIRST_QUESTION:
        return answer_on_writers(spool, call, numbers, row)
    return answer_question(spool, call, numbers)


def answer_on_outputs(spool, call, numbers, row):
    if call == 0:
        return begin(spool, numbers[0], numbers[1], numbers[2])
    if call == 1:
        return open_output(spool, numbers[0], numbers[1], numbers[2], numbers[3], numbers[4], row)
    if call == 2:
        return add_line(spool, numbers[0], numbers[1], row)
    if call == 3:
        return close(spool, numbers[0])
    if call == 4:
        return purge(spool, numbers[0])
    if call == 5:
        return hold(spool, numbers[0])
    if call == 6:
        return letgo(spool, numbers[0])
    if call == 7:
        return change(spool, numbers[0], numbers[1], numbers[2], numbers[3])
    return set_copies(spool, numbers[0], numbers[1])


def answer_on_writers(spool, call, numbers, row):
    if call == 9:
        return start(spool, numbers[0], numbers[1], numbers[2], numbers[3], row)
    if call == 10:
        return serve(spool, numbers[0], numbers[1], numbers[2], row)
    if call == 11:
        return mount(spool, numbers[0], numbers[1])
    if call == 12:
        return stop(spool, numbers[0])
    if call == 13:
        return turn(spool, numbers[0])
    if call == 14:
        return note(spool, numbers[0])
    if call == 15:
        return back(spool, numbers[0], numbers[1])
    if call == 16:
        return interrupt(spool, numbers[0])
    if call == 17:
        return power(spool)
    return cut(spool, numbers[0])


def answer_question(spool, call, numbers):
    if call == 19:
        return tell_pages(spool, numbers[0])
    if call == 20:
        return tell_page(spool, numbers[0], numbers[1])
    if call == 21:
        return tell_output(spool, numbers[0])
    if call == 22:
        return tell_queue(spool, numbers[0])
    if call == 23:
        return tell_writer(spool, numbers[0])
    if call == 24:
        return tell_paper(spool, numbers[0], numbers[1], numbers[2])
    if call == 25:
        return tell_sheet(spool, numbers[0], numbers[1])
    return tell_clean(spool, numbers[0], numbers[1], numbers[2])
