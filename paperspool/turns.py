"""A turn of a writer that's on."""

from paperspool.checks import NO_ROOM
from paperspool.rows import with_rows
from paperspool.sheets import next_sheet, rows_of_sheet

NOTHING_FREE = 0
PRINTED = 1
TAKEN = 2
OTHER_FORM = 3
NOTHING_PRINTED = 0


def take_turn(spool, writer):
    if writer.hand == 0:
        return take_output(spool, writer)
    if is_paper_full(spool, writer):
        return [NO_ROOM]
    answer = print_sheet(spool, writer)
    go_on(spool, writer)
    return answer


# A turn in which power is lost: an output that it would take isn't taken.
def cut_turn(spool, writer):
    answer = [NOTHING_PRINTED]
    if writer.hand != 0:
        if is_paper_full(spool, writer):
            return [NO_ROOM]
        answer = print_sheet(spool, writer)
    spool.lose_power()
    return answer


def take_output(spool, writer):
    free = free_outputs(spool, writer)
    fitting = [output for output in free if output.form == writer.form]
    if len(fitting) > 0:
        return take_in_hand(writer, fitting[0])
    if len(free) > 0:
        return with_rows(OTHER_FORM, [[free[0].form]])
    return [NOTHING_FREE]


def free_outputs(spool, writer):
    return [output for output in spool.waiting_outputs() if output.output_class in writer.classes]


def take_in_hand(writer, output):
    place = next_sheet(output, output.place, writer.separators)
    if output.is_behind_end(place):
        output.place = place
    else:
        writer.hand = output.number
        writer.begin_copy(place)
    return with_rows(TAKEN, [[output.number, place[0], place[1]]])


# Behind every sheet there must be room for a mark.
def is_paper_full(spool, writer):
    return len(writer.paper) > spool.paper_room - 2


# Apart from go_on, as power may be lost between the two.
def print_sheet(spool, writer):
    output = spool.outputs[writer.hand]
    copy = writer.place[0]
    step = writer.place[1]
    writer.serial += 1
    writer.paper.append((writer.serial, output.number, copy, step, rows_of_sheet(output, writer.place)))
    return with_rows(PRINTED, [[output.number, copy, step]])


def go_on(spool, writer):
    output = spool.outputs[writer.hand]
    copy = writer.place[0]
    place = next_sheet(output, (copy, writer.place[1] + 1), writer.separators)
    if output.is_behind_end(place):
        hand_back(spool, writer, place)
    elif place[0] == copy:
        go_on_in_copy(writer, place)
    elif writer.draining:
        hand_back(spool, writer, place)
    else:
        writer.begin_copy(place)


def go_on_in_copy(writer, place):
    writer.place = place
    writer.since += 1
    if writer.since >= writer.note_every:
        writer.note()


# The document's "to let go".
def hand_back(spool, writer, place):
    # Nothing of this copy is printed yet: whoever goes on may still print its header.
    if writer.separators == 0 and place[1] == 1:
        place = (place[0], 0)
    output = spool.outputs[writer.hand]
    output.place = place
    writer.empty_hand()
    writer.noted_serial = writer.serial
    if writer.draining:
        writer.switch_off()
