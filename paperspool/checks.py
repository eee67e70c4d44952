"""The refusals, and what is asked of the arguments of a call.

What is called a refusal here is the number that's to be answered, or 0 where
nothing is against the call.
"""

from paperspool.spool import WRITERS

OUT_OF_RANGE = -1
WRONG_FORM = -2
WRITER_OFF = -3
NOT_THERE = -4
SO_ALREADY = -5
WRONG_STATE = -6
IN_HAND = -7
NO_ROOM = -8

LAST_NUMBER = 999999
LONGEST_NAME = 8
LONGEST_TEXT = 132
MOST_CLASSES = 8


def within(value, least, greatest):
    return least <= value <= greatest


def is_switch(value):
    return within(value, 0, 1)


def is_class(value):
    return within(value, 1, 36)


def is_form(value):
    return within(value, 1, 99)


def is_priority(value):
    return within(value, 0, 15)


def is_copies(value):
    return within(value, 1, 255)


def is_note_every(value):
    return within(value, 1, 1000)


def is_back(value):
    return within(value, 1, 1000)


def is_from(value):
    return within(value, 1, 1000000)


def is_most(value):
    return within(value, 1, 100)


def is_writer(value):
    return within(value, 1, WRITERS)


def is_letter(byte):
    return within(byte, 65, 90)


def is_digit(byte):
    return within(byte, 48, 57)


def is_name(row):
    if not within(len(row), 1, LONGEST_NAME) or not is_letter(row[0]):
        return False
    return all([is_letter(byte) or is_digit(byte) for byte in row])


def is_text(row):
    return len(row) <= LONGEST_TEXT and all([within(byte, 32, 126) for byte in row])


def is_class_list(row):
    if not within(len(row), 1, MOST_CLASSES) or len(set(row)) != len(row):
        return False
    return all([is_class(value) for value in row])


def output_refusal(spool, number):
    if not within(number, 1, LAST_NUMBER):
        return OUT_OF_RANGE
    if number not in spool.outputs:
        return NOT_THERE
    return 0


# For the calls that leave an output alone while a writer has it in hand.
def hand_refusal(spool, number):
    refusal = output_refusal(spool, number)
    if refusal == 0 and spool.is_in_hand(number):
        return IN_HAND
    return refusal


def writer_refusal(spool, number):
    if not is_writer(number):
        return OUT_OF_RANGE
    if not spool.writer_at(number).on:
        return WRITER_OFF
    return 0


# For the calls on what a writer has in hand.
def empty_hand_refusal(spool, number):
    refusal = writer_refusal(spool, number)
    if refusal == 0 and spool.writer_at(number).hand == 0:
        return WRONG_STATE
    return refusal
