"""The entries of a paper, and which of its sheets count.

An entry is a tuple: a sheet's serial, output, copy, step and rows, or a mark's
serial alone.
"""


def is_mark(entry):
    return len(entry) == 1


def counting_sheets(paper):
    sheets = []
    for entry in paper:
        if is_mark(entry):
            sheets = [sheet for sheet in sheets if sheet[0] <= entry[0]]
        else:
            sheets.append(entry)
    return sheets


# A sheet's rows are told by a question of their own.
def row_of_entry(entry):
    return list(entry[:4])
