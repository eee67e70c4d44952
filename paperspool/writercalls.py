"""The calls on writers; each gives back what is answered, number by number."""

from paperspool.checks import (
    NO_ROOM,
    OUT_OF_RANGE,
    SO_ALREADY,
    WRONG_FORM,
    WRONG_STATE,
    empty_hand_refusal,
    is_back,
    is_class_list,
    is_form,
    is_note_every,
    is_switch,
    is_writer,
    writer_refusal,
)
from paperspool.turns import cut_turn, hand_back, is_paper_full, take_turn


def start(spool, number, form, separators, note_every, classes):
    if not (is_writer(number) and is_form(form) and is_switch(separators) and is_note_every(note_every)):
        return [OUT_OF_RANGE]
    if not is_class_list(classes):
        return [WRONG_FORM]
    writer = spool.writer_at(number)
    if writer.on:
        return [SO_ALREADY]
    writer.switch_on(form)
    writer.be_told(separators, note_every, classes)
    return [0]


def serve(spool, number, separators, note_every, classes):
    if not (is_switch(separators) and is_note_every(note_every)):
        return [OUT_OF_RANGE]
    refusal = writer_refusal(spool, number)
    if refusal != 0:
        return [refusal]
    if not is_class_list(classes):
        return [WRONG_FORM]
    writer = spool.writer_at(number)
    if writer.hand != 0:
        return [WRONG_STATE]
    writer.be_told(separators, note_every, classes)
    return [0]


def mount(spool, number, form):
    if not is_form(form):
        return [OUT_OF_RANGE]
    refusal = writer_refusal(spool, number)
    if refusal != 0:
        return [refusal]
    writer = spool.writer_at(number)
    if writer.hand != 0:
        return [WRONG_STATE]
    before = writer.form
    writer.form = form
    return [before]


def stop(spool, number):
    refusal = writer_refusal(spool, number)
    if refusal != 0:
        return [refusal]
    writer = spool.writer_at(number)
    if writer.draining:
        return [SO_ALREADY]
    if writer.hand == 0:
        writer.switch_off()
    else:
        writer.draining = True
        writer.note()
    return [writer.hand]


def turn(spool, number):
    refusal = writer_refusal(spool, number)
    if refusal != 0:
        return [refusal]
    return take_turn(spool, spool.writer_at(number))


def note(spool, number):
    refusal = empty_hand_refusal(spool, number)
    if refusal != 0:
        return [refusal]
    writer = spool.writer_at(number)
    since = writer.since
    writer.note()
    return [since]


def back(spool, number, most_steps):
    if not is_back(most_steps):
        return [OUT_OF_RANGE]
    refusal = empty_hand_refusal(spool, number)
    if refusal != 0:
        return [refusal]
    writer = spool.writer_at(number)
    if is_paper_full(spool, writer):
        return [NO_ROOM]
    return [writer.go_back(most_steps)]


def interrupt(spool, number):
    refusal = empty_hand_refusal(spool, number)
    if refusal != 0:
        return [refusal]
    writer = spool.writer_at(number)
    let_go = writer.hand
    hand_back(spool, writer, writer.place)
    return [let_go]


def power(spool):
    spool.lose_power()
    return [0]


def cut(spool, number):
    refusal = writer_refusal(spool, number)
    if refusal != 0:
        return [refusal]
    return cut_turn(spool, spool.writer_at(number))
