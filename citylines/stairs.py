"""What signs are judged by: moments, what the words say, and the rows of their cases."""

from citylines.layers import delays_let, layers_from
from citylines.steps import departure_of, first_of, steps_from


def moment_behind(moment, times):
    """The moment behind a ride that leaves and arrives so."""
    return moment if times[0] is None else max(moment, times[0])


def moment_of(steps):
    """The moment behind these steps."""
    return max([0] + [step[1][0] for step in steps if step[1][0] is not None])


class Words:
    """What the word "now" says of one ride from each standing, each worked out once."""

    def __init__(self, chart, ride):
        self.chart = chart
        self.ride = ride
        self.known = {}

    def now(self, many, standing):
        """The ride's departure from the standing at many, with no delay but what is heard."""
        passed = []
        at, row = many, standing
        while at < self.ride and (at, row) not in self.known:
            passed.append((at, row))
            heard = [self.chart.heard[at] if at < len(self.chart.heard) else 0]
            row = steps_from(self.chart, at, row, heard)[0][0]
            at += 1
        if (at, row) not in self.known:
            self.known[(at, row)] = departure_of(self.chart, at, row)
        departure = self.known[(at, row)]
        for own in passed:
            self.known[own] = departure
        return departure


def leasts_of(chart, layers):
    """What the word "least" says of the ride at the end of layers of standings from 0 on: a list of dicts.

    They tell for each standing the list of what is said there for each number of minutes left of the budget, from 0 to
    as many as are left behind the row; None where no course goes on with so many.
    """
    last = len(layers) - 1
    said = {}
    for row, (minutes, _) in layers[last].items():
        said[row] = [departure_of(chart, last, row) for _ in range(chart.budget - minutes + 1)]
    found = [said]
    for many in reversed(range(last)):
        said = {}
        for row, (minutes, _) in layers[many].items():
            delays = delays_let(chart, many, minutes)
            rows = [(delay, found[-1][step[0]]) for delay, step in zip(delays, steps_from(chart, many, row, delays))]
            said[row] = [least_with(rows, left) for left in range(chart.budget - minutes + 1)]
        found.append(said)
    return found[::-1]


def least_with(rows, left):
    """The least of what is said behind delays that are let with so many minutes left, None of nothing."""
    told = [said[left - delay] for delay, said in rows if delay <= left]
    return min([minute for minute in told if minute is not None], default=None)


def least_rows(chart, ride):
    """The layers of the reached rows of "least": tuples (standing, spent, moment)."""
    begin = ((first_of(chart), 0, 0), 0)
    return layers_from(chart, 0, ride, begin, lambda many, row, delays: least_behind(chart, many, row, delays))


def least_behind(chart, many, row, delays):
    """What comes of a row of "least" by these delays."""
    standing, spent, moment = row
    steps = steps_from(chart, many, standing, delays)
    return [(step[0], spent + delay, moment_behind(moment, step[1])) for delay, step in zip(delays, steps)]


def said_in_rows(chart, layers):
    """For each layer of reached rows of "least" a dict of what is said at its rows."""
    last = len(layers) - 1
    found = [{row: departure_of(chart, last, row[0]) for row in layers[last]}]
    for many in reversed(range(last)):
        said = {}
        for row in layers[many]:
            delays = delays_let(chart, many, row[1])
            said[row] = min([found[-1][behind] for behind in least_behind(chart, many, row, delays)])
        found.append(said)
    return found[::-1]


def now_rows(chart, words):
    """The layers of the reached rows of "now": tuples (standing, moment, stairs)."""
    begin = (first_now(words), 0)
    return layers_from(chart, 0, words.ride, begin, lambda many, row, delays: now_behind(words, many, row, delays))


def first_now(words):
    """The row of "now" at 0."""
    first = first_of(words.chart)
    return (first, 0, with_pair((), (0, words.now(0, first))))


def now_behind(words, many, row, delays):
    """What comes of a row of "now" by these delays."""
    standing, moment, stairs = row
    found = []
    for step in steps_from(words.chart, many, standing, delays):
        known = moment_behind(moment, step[1])
        found.append((step[0], known, with_pair(stairs, (known, words.now(many + 1, step[0])))))
    return found


def with_pair(stairs, pair):
    """The stairs with one pair more (moment, minute said), where it counts and no other one makes it needless."""
    moment, said = pair
    if said <= moment or any([own[0] <= moment and own[1] >= said for own in stairs]):
        return stairs
    return tuple(sorted([own for own in stairs if own[0] < moment or own[1] > said] + [pair]))


def is_misled(stairs, departure):
    """Whether some pair's moment is at most the departure, and its minute said greater."""
    return any([moment <= departure < said for moment, said in stairs])
