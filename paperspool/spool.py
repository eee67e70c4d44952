"""What there is: outputs, writers, and the spool that has them.

A place is a tuple: a copy and a step. A writer's hand is the number of its
output in hand, or 0. A spool's most_rows, cap and paper_room are the document's
M, cap and P, a writer's note_every is its E.
"""

from paperspool.papers import is_mark

WRITERS = 8
FIRST_PLACE = (1, 0)
NO_PLACE = (0, 0)


class Output:
    def __init__(self, number, name, output_class, form, copies, priority, held):
        self.number = number
        self.name = name
        self.output_class = output_class
        self.form = form
        self.copies = copies
        self.priority = priority
        self.held = held
        self.closed = False
        self.line_count = 0
        self.pages = []
        self.place = FIRST_PLACE

    def is_done(self):
        return self.is_behind_end(self.place)

    def is_behind_end(self, place):
        return place[0] > self.copies

    def end(self):
        return (self.copies + 1, 0)

    def copies_begun(self):
        if self.place[1] == 0:
            return self.place[0] - 1
        return self.place[0]


class Writer:
    def __init__(self):
        self.paper = []
        self.serial = 0
        self.noted_serial = 0
        self.switch_off()
        self.empty_hand()

    # Paper and serials stay: what's printed is printed.
    def switch_off(self):
        self.on = False
        self.form = 0
        self.draining = False
        self.be_told(0, 0, [])

    def switch_on(self, form):
        self.on = True
        self.form = form

    def be_told(self, separators, note_every, classes):
        self.separators = separators
        self.note_every = note_every
        self.classes = classes

    def empty_hand(self):
        self.hand = 0
        self.place = NO_PLACE
        self.noted_place = NO_PLACE
        self.since = 0
        self.first_step = 0

    def begin_copy(self, place):
        self.place = place
        self.first_step = place[1]
        self.note()

    def note(self):
        self.noted_serial = self.serial
        self.noted_place = self.place
        self.since = 0

    def return_to_noted(self):
        self.place = self.noted_place
        self.serial = self.noted_serial
        self.since = 0
        if not self.ends_with_mark():
            self.put_mark()

    # Not before the first step: what's ahead of it was printed before this copy came in hand.
    def go_back(self, most_steps):
        steps = min(most_steps, self.place[1] - self.first_step)
        if steps > 0:
            self.place = (self.place[0], self.place[1] - steps)
            self.serial -= steps
            self.put_mark()
        self.note()
        return steps

    def ends_with_mark(self):
        return len(self.paper) > 0 and is_mark(self.paper[-1])

    def put_mark(self):
        self.paper.append((self.serial,))


class Spool:
    def __init__(self, most_rows, cap, paper_room):
        self.renew(most_rows, cap, paper_room)

    def renew(self, most_rows, cap, paper_room):
        self.most_rows = most_rows
        self.cap = cap
        self.paper_room = paper_room
        self.last_number = 0
        self.outputs = {}
        self.writers = [Writer() for writer in range(WRITERS)]

    def writer_at(self, number):
        return self.writers[number - 1]

    def is_in_hand(self, number):
        return number in [writer.hand for writer in self.writers]

    def is_waiting(self, output):
        if not output.closed or output.held or output.is_done():
            return False
        return not self.is_in_hand(output.number)

    # In the order in which they go.
    def waiting_outputs(self):
        waiting = [output for output in self.outputs.values() if self.is_waiting(output)]
        return sorted(waiting, key=lambda output: (-output.priority, output.number))

    def lose_power(self):
        for writer in self.writers:
            if writer.hand != 0:
                writer.return_to_noted()
