"""How a listing's lines are put on pages.

A page is a list of rows, a row a list of bytes. The line put last always
stands on the last row of the last page, so the pages alone tell where the
next line goes.
"""

BLANK = 32
OVER = 43
NEW_PAGE = 49
STRUCK = 35
ROWS_DOWN = {32: 1, 48: 2, 45: 3}
CODES = (32, 48, 45, 43, 49)


def put_line(pages, code, text, most_rows):
    words = without_end_blanks(text)
    if len(pages) == 0:
        pages.append(rows_down_to(first_row(code, most_rows), words))
        return
    page = pages[-1]
    if code == OVER:
        page[-1] = put_over(page[-1], words)
    elif code == NEW_PAGE or len(page) + ROWS_DOWN[code] > most_rows:
        pages.append([words])
    else:
        page.extend(rows_down_to(ROWS_DOWN[code], words))


def first_row(code, most_rows):
    row = ROWS_DOWN.get(code, 1)
    if row > most_rows:
        return 1
    return row


def rows_down_to(count, words):
    rows = [[] for row in range(count - 1)]
    rows.append(words)
    return rows


def without_end_blanks(text):
    size = len(text)
    while size > 0 and text[size - 1] == BLANK:
        size -= 1
    return text[:size]


def put_over(under, over):
    size = max(len(under), len(over))
    return [strike(byte_at(under, k), byte_at(over, k)) for k in range(size)]


# Behind its end a text lets the other one show, as a blank does.
def byte_at(text, k):
    if k < len(text):
        return text[k]
    return BLANK


def strike(one, other):
    if one == BLANK:
        return other
    if other == BLANK or one == other:
        return one
    return STRUCK
