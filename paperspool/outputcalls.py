"""The calls on outputs; each gives back what is answered, number by number."""

from paperspool.checks import (
    LAST_NUMBER,
    NO_ROOM,
    OUT_OF_RANGE,
    SO_ALREADY,
    WRONG_FORM,
    WRONG_STATE,
    hand_refusal,
    is_class,
    is_copies,
    is_form,
    is_name,
    is_priority,
    is_switch,
    is_text,
    output_refusal,
    within,
)
from paperspool.listing import CODES, put_line
from paperspool.spool import Output

MOST_LINES = 100


def begin(spool, most_rows, cap, paper_room):
    if not (within(most_rows, 1, 100) and within(cap, 1, 200) and within(paper_room, 2, 5000)):
        return [OUT_OF_RANGE]
    spool.renew(most_rows, cap, paper_room)
    return [0]


def open_output(spool, output_class, form, copies, priority, held, name):
    if not (is_class(output_class) and is_form(form) and is_copies(copies)):
        return [OUT_OF_RANGE]
    if not (is_priority(priority) and is_switch(held)):
        return [OUT_OF_RANGE]
    if not is_name(name):
        return [WRONG_FORM]
    if len(spool.outputs) >= spool.cap or spool.last_number == LAST_NUMBER:
        return [NO_ROOM]
    number = spool.last_number + 1
    spool.last_number = number
    spool.outputs[number] = Output(number, name, output_class, form, copies, priority, held == 1)
    return [number]


def add_line(spool, number, code, text):
    refusal = output_refusal(spool, number)
    if refusal != 0:
        return [refusal]
    if code not in CODES or not is_text(text):
        return [WRONG_FORM]
    output = spool.outputs[number]
    if output.closed:
        return [WRONG_STATE]
    if output.line_count == MOST_LINES:
        return [NO_ROOM]
    output.line_count += 1
    put_line(output.pages, code, text, spool.most_rows)
    return [output.line_count]


def close(spool, number):
    refusal = output_refusal(spool, number)
    if refusal != 0:
        return [refusal]
    output = spool.outputs[number]
    if output.closed:
        return [SO_ALREADY]
    output.closed = True
    return [len(output.pages)]


def purge(spool, number):
    refusal = hand_refusal(spool, number)
    if refusal != 0:
        return [refusal]
    spool.outputs.pop(number)
    return [0]


def hold(spool, number):
    refusal = hand_refusal(spool, number)
    if refusal != 0:
        return [refusal]
    output = spool.outputs[number]
    if output.held:
        return [SO_ALREADY]
    output.held = True
    return [0]


def letgo(spool, number):
    refusal = output_refusal(spool, number)
    if refusal != 0:
        return [refusal]
    output = spool.outputs[number]
    if not output.held:
        return [SO_ALREADY]
    output.held = False
    return [0]


def change(spool, number, output_class, form, priority):
    if not (is_class(output_class) and is_form(form) and is_priority(priority)):
        return [OUT_OF_RANGE]
    refusal = hand_refusal(spool, number)
    if refusal != 0:
        return [refusal]
    output = spool.outputs[number]
    output.output_class = output_class
    output.form = form
    output.priority = priority
    return [0]


def set_copies(spool, number, copies):
    if not is_copies(copies):
        return [OUT_OF_RANGE]
    refusal = hand_refusal(spool, number)
    if refusal != 0:
        return [refusal]
    output = spool.outputs[number]
    if copies < output.copies_begun():
        return [WRONG_STATE]
    output.copies = copies
    return [0]
