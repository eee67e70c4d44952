"""The calls on writers; each gives back what is answered, number by number."""

from paperspool.checks import (
    OUT_OF_RANGE,
    SO_ALREADY,
    WRONG_FORM,
    WRONG_STATE,
    is_class_list,
    is_form,
    is_note_every,
    is_switch,
    is_writer,
    writer_refusal,
)
from paperspool.turns import take_turn


def start(spool, number, form, separators, note_every, classes):
    if not (is_writer(number) and is_form(form) and is_switch(separators) and is_note_every(note_every)):
        return [OUT_OF_RANGE]
    if not is_class_list(classes):
        return [WRONG_FORM]
    writer = spool.writer_at(number)
    if writer.on:
        return [SO_ALREADY]
    writer.switch_on(form)
    writer.be_told(separators, note_every, classes)
    return [0]


def serve(spool, number, separators, note_every, classes):
    if not (is_switch(separators) and is_note_every(note_every)):
        return [OUT_OF_RANGE]
    refusal = writer_refusal(spool, number)
    if refusal != 0:
        return [refusal]
    if not is_class_list(classes):
        return [WRONG_FORM]
    writer = spool.writer_at(number)
    if writer.hand != 0:
        return [WRONG_STATE]
    writer.be_told(separators, note_every, classes)
    return [0]


def mount(spool, number, form):
    if not is_form(form):
        return [OUT_OF_RANGE]
    refusal = writer_refusal(spool, number)
    if refusal != 0:
        return [refusal]
    writer = spool.writer_at(number)
    if writer.hand != 0:
        return [WRONG_STATE]
    before = writer.form
    writer.form = form
    return [before]


def stop(spool, number):
    refusal = writer_refusal(spool, number)
    if refusal != 0:
        return [refusal]
    writer = spool.writer_at(number)
    if writer.draining:
        return [SO_ALREADY]
    if writer.hand == 0:
        writer.switch_off()
    else:
        writer.draining = True
        writer.note()
    return [writer.hand]


def turn(spool, number):
    refusal = writer_refusal(spool, number)
    if refusal != 0:
        return [refusal]
    return take_turn(spool, spool.writer_at(number))
