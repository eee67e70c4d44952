"""Calls in the words of the document, and what the tests look at."""

from paperspool.house import answers, answers_of, new_spool

LEAST = -2 ** 63
GREATEST = 2 ** 63 - 1


def row(numbers):
    values = [ord(sign) for sign in numbers] if isinstance(numbers, str) else list(numbers)
    return [len(values)] + values


def begin(m=60, cap=200, p=5000):
    return [0, m, cap, p]


def open_(klass=1, form=1, copies=1, priority=0, held=0, name="A"):
    return [1, klass, form, copies, priority, held] + row(name)


def line(output=1, code=32, text="X"):
    return [2, output, ord(code) if isinstance(code, str) else code] + row(text)


def close(output=1):
    return [3, output]


def purge(output=1):
    return [4, output]


def hold(output=1):
    return [5, output]


def letgo(output=1):
    return [6, output]


def change(output=1, klass=1, form=1, priority=0):
    return [7, output, klass, form, priority]


def copies(output=1, n=1):
    return [8, output, n]


def start(writer=1, form=1, separators=0, e=1, classes=(1,)):
    return [9, writer, form, separators, e] + row(classes)


def serve(writer=1, separators=0, e=1, classes=(1,)):
    return [10, writer, separators, e] + row(classes)


def mount(writer=1, form=1):
    return [11, writer, form]


def stop(writer=1):
    return [12, writer]


def turn(writer=1):
    return [13, writer]


def turns(count, writer=1):
    return [turn(writer) for each in range(count)]


def note(writer=1):
    return [14, writer]


def back(writer=1, k=1):
    return [15, writer, k]


def interrupt(writer=1):
    return [16, writer]


def power():
    return [17]


def cut(writer=1):
    return [18, writer]


def tell_pages(output=1):
    return [19, output]


def tell_page(output=1, p=1):
    return [20, output, p]


def tell_output(output=1):
    return [21, output]


def tell_queue(klass=1):
    return [22, klass]


def tell_writer(writer=1):
    return [23, writer]


def tell_paper(writer=1, first=1, most=100):
    return [24, writer, first, most]


def tell_sheet(writer=1, k=1):
    return [25, writer, k]


def tell_clean(writer=1, first=1, most=100):
    return [26, writer, first, most]


def output_of(pages, number=1, **told):
    """The calls that open, fill and close an output of so many pages of one row."""
    calls = [open_(**told)]
    for page in range(pages):
        calls.append(line(number, "1", f"PAGE {page + 1}"))
    return calls + [close(number)]


def steps(pages, count, separators):
    """All sheets of an output, each its copy and step, told the long way."""
    of_copy = list(range(0, pages + 2)) if separators else list(range(1, pages + 1))
    return [(copy, step) for copy in range(1, count + 1) for step in of_copy]


def everything():
    """Questions on all that there is of outputs 1 to 3 and of each writer."""
    calls = [tell_queue(klass) for klass in (1, 2, 3, 36)]
    for number in (1, 2, 3):
        calls += [tell_output(number), tell_pages(number), tell_page(number)]
    for number in range(1, 9):
        calls += [tell_writer(number), tell_paper(number), tell_clean(number)]
    return calls


def split(told):
    """The answers of several calls, a list for each; a list that doesn't come out even is an error."""
    result = []
    at = 0
    while at < len(told):
        size = told[at]
        if size < 1 or at + 1 + size > len(told):
            raise ValueError(f"the answers don't come out even: {told}")
        result.append(told[at + 1:at + 1 + size])
        at += 1 + size
    return result


def parts(answer):
    """The first number of an answer, and its rows; rows that don't come out even are an error."""
    rows = []
    at = 1
    while at < len(answer):
        size = answer[at]
        if size < 0 or at + 1 + size > len(answer):
            raise ValueError(f"the rows don't come out even: {answer}")
        rows.append(answer[at + 1:at + 1 + size])
        at += 1 + size
    return answer[0], rows


def joined(calls):
    return [number for call in calls for number in call]


def ask(*calls):
    """What each of these calls answers, on a new object, by the interface."""
    return split(answers(joined(calls)))


def last(*calls):
    """What the last of these calls answers."""
    return ask(*calls)[-1]


def told(*calls):
    """The first number and the rows that the last of these calls answers."""
    return parts(last(*calls))


def entries(*calls, writer=1):
    """The paper behind these calls, by the interface, 100 entries at a time."""
    return all_rows(calls, tell_paper, writer)


def clean_sheets(*calls, writer=1):
    return all_rows(calls, tell_clean, writer)


def all_rows(calls, question, writer):
    found = []
    while True:
        count, rows = told(*calls, question(writer, len(found) + 1))
        found += rows
        if count < 100:
            return found


def spool_after(*calls):
    """The state behind these calls."""
    spool = new_spool()
    answers_of(spool, joined(calls))
    return spool


def go(spool, *calls):
    """What each of these calls answers on a spool that goes on."""
    return split(answers_of(spool, joined(calls)))


def picture(thing):
    """All that an object keeps, as plain values to compare."""
    if isinstance(thing, (list, tuple)):
        return [picture(part) for part in thing]
    if isinstance(thing, dict):
        return [[key, picture(part)] for key, part in thing.items()]
    if hasattr(thing, "__dict__"):
        return [[name, picture(part)] for name, part in sorted(vars(thing).items())]
    return thing


def words(rows):
    """Rows of bytes as texts."""
    return ["".join(chr(byte) for byte in one) for one in rows]


def sheets(spool, writer=1):
    """A paper's sheets without their rows."""
    return [entry[:4] for entry in spool.writers[writer - 1].paper]


class Refusals:
    """To be mixed into a TestCase."""

    def refused(self, refusal, before, call):
        """The call is refused so, and has changed nothing: neither what's kept, nor what the questions tell."""
        spool = spool_after(*before)
        seen = picture(spool)
        self.assertEqual(go(spool, call), [[refusal]], call)
        self.assertEqual(picture(spool), seen, call)
        self.same_behind(before, call)

    def same_behind(self, before, *calls):
        """What the questions tell is the same behind these calls."""
        asked = everything()
        self.assertEqual(ask(*before, *calls, *asked)[-len(asked):], ask(*before, *asked)[-len(asked):], calls)

    def accepted(self, answer, before, call):
        self.assertEqual(last(*before, call), answer, call)

    def check_range(self, before, make, name, least, greatest, outside=-1):
        """At a range's ends a call isn't refused by -1, outside it is."""
        for value in (least, greatest):
            self.assertNotEqual(last(*before, make(**{name: value})), [-1], (name, value))
        for value in (least - 1, greatest + 1, LEAST, GREATEST):
            self.refused(outside, before, make(**{name: value}))
