"""The questions; each gives back what is answered, number by number, and changes nothing."""

from paperspool.checks import (
    NOT_THERE,
    OUT_OF_RANGE,
    WRONG_STATE,
    is_class,
    is_from,
    is_most,
    is_writer,
    output_refusal,
    within,
)
from paperspool.papers import counting_sheets, is_mark, row_of_entry
from paperspool.rows import with_rows


def tell_pages(spool, number):
    refusal = output_refusal(spool, number)
    if refusal != 0:
        return [refusal]
    return [len(spool.outputs[number].pages)]


def tell_page(spool, number, wanted):
    refusal = output_refusal(spool, number)
    if refusal != 0:
        return [refusal]
    pages = spool.outputs[number].pages
    if not within(wanted, 1, len(pages)):
        return [OUT_OF_RANGE]
    page = pages[wanted - 1]
    return with_rows(len(page), page)


def tell_output(spool, number):
    refusal = output_refusal(spool, number)
    if refusal != 0:
        return [refusal]
    output = spool.outputs[number]
    row = [output.output_class, output.form, output.priority, output.copies]
    row.extend([int(output.held), int(output.closed), int(output.is_done()), int(spool.is_in_hand(number))])
    row.extend([output.line_count, output.place[0], output.place[1]])
    return with_rows(0, [output.name, row])


def tell_queue(spool, wanted):
    if not is_class(wanted):
        return [OUT_OF_RANGE]
    numbers = [output.number for output in spool.waiting_outputs() if output.output_class == wanted]
    return with_rows(len(numbers), [numbers])


def tell_writer(spool, number):
    if not is_writer(number):
        return [OUT_OF_RANGE]
    writer = spool.writer_at(number)
    row = [writer.form, writer.separators, writer.note_every, int(writer.draining), len(writer.paper)]
    return with_rows(int(writer.on), [writer.classes, row, row_of_hand(writer)])


def row_of_hand(writer):
    if writer.hand == 0:
        return []
    return [writer.hand, writer.place[0], writer.place[1], writer.since]


def tell_paper(spool, number, first, most):
    if not (is_writer(number) and is_from(first) and is_most(most)):
        return [OUT_OF_RANGE]
    return some_entries(spool.writer_at(number).paper, first, most)


def tell_clean(spool, number, first, most):
    if not (is_writer(number) and is_from(first) and is_most(most)):
        return [OUT_OF_RANGE]
    return some_entries(counting_sheets(spool.writer_at(number).paper), first, most)


def some_entries(entries, first, most):
    rows = [row_of_entry(entry) for entry in entries[first - 1:first - 1 + most]]
    return with_rows(len(rows), rows)


def tell_sheet(spool, number, wanted):
    if not (is_writer(number) and is_from(wanted)):
        return [OUT_OF_RANGE]
    paper = spool.writer_at(number).paper
    if wanted > len(paper):
        return [NOT_THERE]
    entry = paper[wanted - 1]
    if is_mark(entry):
        return [WRONG_STATE]
    return with_rows(len(entry[4]), entry[4])
