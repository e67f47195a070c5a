"""The tests' own reckoning of a desk: what is kept, all states, all answers, deed by deed from the document's words."""

from citylines.claims import is_claim, is_true
from citylines.courses import breakable, greatest_late, least_course
from citylines.days import day
from citylines.errors import (
    InvalidClaim, InvalidPassages, InvalidPosition, InvalidRide, InvalidTickets, LabelTaken, NameTaken, NothingToRedo,
    NothingToUndo, TooMany, UnknownLabel, UnknownName, UnsoundPlan,
)
from citylines.plans import rides, unsound
from citylines.remedies import after, heard_more
from citylines.signs import moment, said
from citylines.texts import plan_of, plan_text, way_of
from citylines.tickets import cheapest, is_passage, is_ticket
from reading import route_at
from some_plans import WORDS, put_part

LINES = {
    "keeps": "p", "breaks": "p", "surely": "pwn", "perhaps": "pwn", "alike": "pp", "unlike": "pp", "same": "pp", "parted": "pp",
    "within": "tsn", "above": "tsn",
}
SORT_OF = {"p": "plan", "w": "way", "t": "tickets", "s": "passages"}


def numbers(words):
    return [int(word) for word in words]


def joined(row):
    return ",".join(map(str, row)) or "-"


def dash(value):
    return "-" if value is None else str(value)


class Reckoning:
    def __init__(self):
        self.kept, self.noted, self.done, self.undone = {}, {}, [], []

    def snapshot(self):
        return dict(self.kept), dict(self.noted)

    def want(self, name, *sorts):
        if name not in self.kept or (sorts and self.kept[name][0] not in sorts):
            raise UnknownName(name)
        return self.kept[name][1]

    def known(self, label):
        if label not in self.noted:
            raise UnknownLabel(label)
        return self.noted[label]

    def claim(self, label):
        """The tuple of the claim, None if something under its names is not of the wanted sort."""
        try:
            return self.claim_told(self.noted[label])
        except UnknownName:
            return None

    def claim_told(self, told):
        word, *rest = told.split(" ")
        if word in ("safe", "misleads"):
            return (word, self.want(rest[0], "plan"), int(rest[1]), rest[2], int(rest[3]) if len(rest) == 4 else 0)
        found = [word]
        for kind, own in zip(LINES[word], rest):
            if kind == "n":
                found.append(int(own))
            else:
                thing = self.want(own, SORT_OF[kind])
                found.append(list(thing) if kind in "ts" else thing)
        return tuple(found)

    def state(self, label):
        claim = self.claim(label)
        if claim is None or not is_claim(claim):
            return "gone"
        try:
            return "true" if is_true(claim) else "false"
        except TooMany:
            return "gone"

    def states(self):
        return {label: self.state(label) for label in sorted(self.noted)}

    def do(self, line):
        words = line.split(" ")
        call = getattr(self, "ask_" + words[0], None)
        if call is not None:
            return call(*words[1:])
        before, kept = self.states(), self.snapshot()
        try:
            getattr(self, "do_" + words[0])(line, *words[1:])
            for what, most, some in (("names", 12, self.kept), ("labels", 8, self.noted), ("deeds", 200, self.done + [line])):
                if len(some) > most:
                    raise TooMany(what, most)
        except Exception:
            self.kept, self.noted = kept
            raise
        self.done.append((line, kept))
        self.undone = []
        changed = [f"{label} {state}" for label, state in self.states().items() if before.get(label) != state]
        return ", ".join(changed) or "-"

    def ask_undo(self):
        if not self.done:
            raise NothingToUndo()
        line, kept = self.done.pop()
        self.undone.append((line, self.snapshot()))
        self.kept, self.noted = kept
        return line

    def ask_redo(self):
        if not self.undone:
            raise NothingToRedo()
        line, kept = self.undone.pop()
        self.done.append((line, self.snapshot()))
        self.kept, self.noted = kept
        return line

    # Deeds.

    def new(self, name):
        if name in self.kept:
            raise NameTaken(name)

    def do_plan(self, line, name, *_):
        self.new(name)
        self.kept[name] = ("plan", plan_of(line.split(" ", 2)[2]))

    def do_way(self, line, name, plan, *_):
        self.new(name)
        self.kept[name] = ("way", way_of(self.want(plan, "plan"), line.split(" ", 3)[3]))

    def do_tickets(self, line, name):
        self.new(name)
        self.kept[name] = ("tickets", ())

    def do_passages(self, line, name):
        self.new(name)
        self.kept[name] = ("passages", ())

    def do_ticket(self, line, name, price, minutes, zones, persons):
        more = self.want(name, "tickets") + (("ticket", int(price), int(minutes), tuple(numbers(zones.split(","))), int(persons)),)
        if not all(map(is_ticket, more)):
            raise InvalidTickets(list(more))
        if len(more) > 8:
            raise TooMany("tickets", 8)
        self.kept[name] = ("tickets", more)

    def do_passage(self, line, name, begin, end, zones):
        more = self.want(name, "passages") + ((int(begin), int(end), tuple(numbers(zones.split(",")))),)
        if not all(map(is_passage, more)):
            raise InvalidPassages(list(more))
        if len(more) > 10:
            raise TooMany("passages", 10)
        self.kept[name] = ("passages", more)

    def do_strike(self, line, name, position):
        rows = list(self.want(name, "tickets", "passages"))
        self.at(rows, position)
        del rows[int(position)]
        self.kept[name] = (self.kept[name][0], tuple(rows))

    def at(self, rows, position):
        if int(position) >= len(rows):
            raise InvalidPosition(int(position))
        return rows[int(position)]

    def sound(self, name, plan):
        word = unsound(plan)
        if word is not None:
            raise UnsoundPlan(word)
        self.kept[name] = ("plan", plan)

    def part_of(self, plan, word):
        return plan[WORDS.index(word) + 1]

    def do_budget(self, line, name, many):
        plan = self.want(name, "plan")
        self.sound(name, put_part(plan, "delays", (plan[8][0], int(many))))

    def do_bound(self, line, name, trip, hop, most):
        plan = self.want(name, "plan")
        ride = (int(trip), int(hop))
        if ride not in rides(plan):
            raise InvalidRide(ride)
        rows = [[int(most) if (at, own) == ride else bound for own, bound in enumerate(row)] for at, row in enumerate(plan[8][0])]
        self.sound(name, put_part(plan, "delays", (tuple(map(tuple, rows)), plan[8][1])))

    def do_spares(self, line, name, *rest):
        self.sound(name, put_part(self.want(name, "plan"), "spares", None if rest == ("-",) else tuple(numbers(rest))))

    def do_told(self, line, name, trip, clocks):
        plan = self.want(name, "plan")
        own = self.at(plan[3], trip)
        minutes = tuple(int(clock[:2]) * 60 + int(clock[3:]) for clock in clocks.split(","))
        trips = tuple(("trip", own[1], minutes) if at == int(trip) else row for at, row in enumerate(plan[3]))
        self.sound(name, put_part(plan, "trips", trips))

    def do_meet(self, line, name, *rest):
        plan = self.want(name, "plan")
        self.sound(name, put_part(plan, "meets", plan[6] + (("meet", *numbers(rest[:5]), rest[5]),)))

    def do_wait(self, line, name, position, wait, way):
        plan = self.want(name, "plan")
        own = self.at(plan[6], position)
        meets = tuple(own[:5] + (int(wait), way) if at == int(position) else row for at, row in enumerate(plan[6]))
        self.sound(name, put_part(plan, "meets", meets))

    def do_part(self, line, name, position):
        plan = self.want(name, "plan")
        self.at(plan[6], position)
        gone = int(position)

        def less(row):
            return row[:1] + (row[1] - 1,) + row[2:] if row[0] in ("meets", "wait", "free") and row[1] > gone else row

        def is_of(row):
            return row[0] in ("meets", "wait", "free") and row[1] == gone

        plan = put_part(plan, "meets", tuple(meet for at, meet in enumerate(plan[6]) if at != gone))
        plan = put_part(plan, "promises", tuple(less(row) for row in plan[7] if not is_of(row)))
        self.sound(name, put_part(plan, "remedies", tuple((at, less(row)) for at, row in plan[11] if not is_of(row))))

    def do_promise(self, line, name, word, *rest):
        plan = self.want(name, "plan")
        self.sound(name, put_part(plan, "promises", plan[7] + ((word, *numbers(rest)),)))

    def do_release(self, line, name, position):
        plan = self.want(name, "plan")
        self.at(plan[7], position)
        self.sound(name, put_part(plan, "promises", tuple(row for at, row in enumerate(plan[7]) if at != int(position))))

    def do_hear(self, line, name, counts):
        self.kept[name] = ("plan", heard_more(self.want(name, "plan"), numbers(counts.split(","))))

    def do_remedy(self, line, name, word, *rest):
        self.kept[name] = ("plan", after(self.want(name, "plan"), (word, *numbers(rest))))

    def do_copy(self, line, name, other):
        self.new(name)
        self.want(other)
        self.kept[name] = self.kept[other]

    def do_drop(self, line, name):
        self.want(name)
        del self.kept[name]

    def do_claim(self, line, label, *_):
        if label in self.noted:
            raise LabelTaken(label)
        told = line.split(" ", 2)[2]
        claim = self.claim_told(told)
        if not is_claim(claim):
            raise InvalidClaim(claim)
        self.noted[label] = told

    def do_forget(self, line, label):
        self.known(label)
        del self.noted[label]

    # Questions.

    def ask_state(self, label):
        self.known(label)
        return self.state(label)

    def ask_states(self):
        return ", ".join(f"{label} {state}" for label, state in self.states().items()) or "-"

    def ask_claimed(self, label):
        return self.known(label)

    def ask_names(self):
        return " ".join(sorted(self.kept)) or "-"

    def ask_sort(self, name):
        self.want(name)
        return self.kept[name][0]

    def ask_show(self, name):
        thing = self.want(name)
        if self.kept[name][0] == "plan":
            return plan_text(thing)
        if self.kept[name][0] == "way":
            return self.way_told(thing)
        if self.kept[name][0] == "tickets":
            return "\n".join(f"{row[1]} {row[2]} {joined(row[3])} {row[4]}" for row in thing) or "-"
        return "\n".join(f"{begin} {end} {joined(zones)}" for begin, end, zones in thing) or "-"

    def way_told(self, way):
        """The text that is read as this way: each word tells what stands behind it."""
        def words(route):
            head = [f"{route[1] // 60:02}:{route[1] % 60:02}"] if route[0] == "by" else [str(own) for own in route[1:] if isinstance(own, int)]
            return [route[0]] + head + [own for part in route[1:] if isinstance(part, tuple) for own in words(part)]

        found = words(way[2])
        assert route_at(found, 0) == (way[2], len(found))
        return " ".join([str(way[0]), f"{way[1] // 60:02}:{way[1] % 60:02}"] + found)

    def ask_equal(self, one, other):
        self.want(one)
        self.want(other)
        return "yes" if self.kept[one] == self.kept[other] else "no"

    def course(self, plan):
        return list(plan[10]) + [0] * (len(rides(plan)) - len(plan[10]))

    def ask_heard(self, name):
        plan = self.want(name, "plan")
        rows = zip(rides(plan)[:len(plan[10])], day(plan, self.course(plan))[1])
        return "\n".join(f"{trip} {hop} {dash(left)} {dash(come)}" for (trip, hop), (left, come) in rows) or "-"

    def ask_next(self, name):
        plan = self.want(name, "plan")
        behind = rides(plan)[len(plan[10]):]
        return f"{behind[0][0]} {behind[0][1]}" if behind else "-"

    def ask_moment(self, name):
        plan = self.want(name, "plan")
        return str(moment(plan, self.course(plan), len(plan[10])))

    def ask_sign(self, name, ride, word):
        plan = self.want(name, "plan")
        return str(said(plan, self.course(plan), len(plan[10]), int(ride), word))

    def ask_can(self, name):
        return joined([at for at, course in enumerate(breakable(self.want(name, "plan"))) if course is not None])

    def ask_least(self, name):
        return joined(least_course(self.want(name, "plan")) or [])

    def ask_late(self, name, ride):
        late = greatest_late(self.want(name, "plan"), int(ride))
        return dash(late and late[0])

    def ask_price(self, tickets, passages):
        return dash(cheapest(list(self.want(tickets, "tickets")), list(self.want(passages, "passages"))))
