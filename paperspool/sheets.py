"""The steps of an output: which sheet is next, and what is on it."""


# Where there's no next sheet, the place told is the output's end.
def next_sheet(output, place, separators):
    copy = place[0]
    step = place[1]
    pages = len(output.pages)
    if output.is_behind_end(place):
        return output.end()
    if is_sheet(step, pages, separators):
        return place
    if step == 0 and pages > 0:
        return (copy, 1)
    if copy < output.copies and (separators == 1 or pages > 0):
        return (copy + 1, first_step(separators))
    return output.end()


def is_sheet(step, pages, separators):
    if step == 0 or step == pages + 1:
        return separators == 1
    return step <= pages


def first_step(separators):
    if separators == 1:
        return 0
    return 1


def rows_of_sheet(output, place):
    if place[1] == 0:
        return separator("START ", output, place[0])
    if place[1] > len(output.pages):
        return separator("END ", output, place[0])
    return output.pages[place[1] - 1]


def separator(word, output, copy):
    return [
        bytes_of(word) + output.name,
        bytes_of("OUTPUT " + str(output.number)),
        bytes_of("COPY " + str(copy)),
    ]


def bytes_of(text):
    return [ord(sign) for sign in text]
