"""Signs at stops: what they say, the news of it, and whether they can mislead."""

from citylines.basics import is_count, is_list, is_tuple, is_within, is_word
from citylines.books import standing_layers
from citylines.charts import chart_of
from citylines.days import chart_for, is_course_of
from citylines.errors import InvalidNotice, InvalidRide, InvalidSign
from citylines.fields import check_many, is_standing_at
from citylines.layers import delays_let, do_close, filled, lesser
from citylines.plans import check_plan
from citylines.stairs import first_now, is_misled, least_behind, least_rows, leasts_of, moment_of, now_behind, now_rows
from citylines.stairs import said_in_rows, Words
from citylines.steps import departure_of, first_of, standing_behind, walked

LONGEST_NOTICE = 60


def moment(plan, course, many):
    """The moment of the prefix of many."""
    chart = chart_for(plan, course)
    check_many(many, chart.many)
    return moment_of(walked(chart, course[:many]))


def check_run(chart, ride, least):
    """Raise InvalidRide unless it is the position of a ride that is run, and not below the least one."""
    if not is_within(ride, least, chart.many - 1) or not chart.sheet.runs[ride]:
        raise InvalidRide(ride)


def check_word(word):
    """Raise InvalidSign unless it is a word of signs."""
    if not is_word(word, ("least", "now")):
        raise InvalidSign(word)


def check_notice(word, notice):
    """Raise InvalidNotice unless it is a notice of the word."""
    if not is_within(notice, 0, LONGEST_NOTICE if word == "least" else 0):
        raise InvalidNotice(notice)


def window(plan, course, many, ride):
    """The window of the ride at the prefix of many: (least, greatest)."""
    chart = chart_for(plan, course)
    check_many(many, chart.many)
    check_run(chart, ride, many)
    return window_of(chart, course[:many], ride)


def window_of(chart, prefix, ride):
    """The window of the ride at the prefix."""
    layers = standing_layers(chart, len(prefix), ride, (standing_behind(chart, prefix), sum(prefix)))
    departures = [departure_of(chart, ride, row) for row in layers[-1]]
    return (min(departures), max(departures))


def said(plan, course, many, ride, word):
    """What the word says of the ride at the prefix of many."""
    chart = chart_for(plan, course)
    check_many(many, chart.many)
    check_run(chart, ride, many)
    check_word(word)
    prefix = course[:many]
    if word == "least":
        return window_of(chart, prefix, ride)[0]
    return Words(chart, ride).now(many, standing_behind(chart, prefix))


def news(plan, course, ride):
    """The list of the news of the course for the ride: tuples (k, old, new)."""
    chart = chart_for(plan, course)
    check_run(chart, ride, 0)
    return news_of(chart, course[:ride], ride)


def news_of(chart, prefix, ride):
    """The news for the ride of courses with these delays ahead of it."""
    first = first_of(chart)
    leasts = leasts_of(chart, standing_layers(chart, 0, ride, (first, 0)))
    rows = [first] + [step[0] for step in walked(chart, prefix)]
    told = [leasts[many][row][chart.budget - sum(prefix[:many])] for many, row in enumerate(rows)]
    return [(many, told[many - 1], told[many]) for many in range(1, ride + 1) if told[many] > told[many - 1]]


def is_late_course(chart, course, ride, notice):
    """Whether some news of the course for the ride come late."""
    found = news_of(chart, course[:ride], ride)
    return any([moment_of(walked(chart, course[:many])) + notice > old for many, old, _ in found])


def late_news(plan, ride, notice):
    """The least course that misleads in the case of "least", None if there is none."""
    check_plan(plan)
    chart = chart_of(plan)
    check_run(chart, ride, 0)
    check_notice("least", notice)
    layers = least_rows(chart, ride)
    course = least_late(chart, layers, said_in_rows(chart, layers), notice)
    return None if course is None else list(course)


def least_late(chart, layers, told, notice):
    """The least course, a tuple, of which news come late, by the reached rows and what is said there."""
    best = None
    for many in range(len(layers) - 1):
        for row, (minutes, prefix) in layers[many].items():
            delays = delays_let(chart, many, minutes)
            old = told[many][row]
            for delay, behind in zip(delays, least_behind(chart, many, row, delays)):
                if told[many + 1][behind] > old and behind[2] + notice > old:
                    best = lesser(best, filled(chart, prefix + (delay,)))
    return best


def misled(plan, ride):
    """The least course that misleads in the case of "now", None if there is none."""
    check_plan(plan)
    chart = chart_of(plan)
    check_run(chart, ride, 0)
    course = least_misled(chart, now_rows(chart, Words(chart, ride)), ride)
    return None if course is None else list(course)


def least_misled(chart, layers, ride):
    """The least course, a tuple, in which "now" misleads, by the reached rows."""
    best = None
    for row, (_, prefix) in layers[-1].items():
        if is_misled(row[2], departure_of(chart, ride, row[0])):
            best = lesser(best, filled(chart, prefix))
    return best


def is_misleading(plan, ride, word, notice, value):
    """Whether any value is a course that misleads in the case."""
    chart = case_of(plan, ride, word, notice)
    if not is_course_of(chart, value):
        return False
    if word == "least":
        return is_late_course(chart, value, ride, notice)
    words = Words(chart, ride)
    row = first_now(words)
    for many in range(ride):
        row = now_behind(words, many, row, [value[many]])[0]
    return is_misled(row[2], departure_of(chart, ride, row[0]))


def case_of(plan, ride, word, notice):
    """The chart of a case's plan: InvalidPlan, InvalidRide, InvalidSign, InvalidNotice."""
    check_plan(plan)
    chart = chart_of(plan)
    check_run(chart, ride, 0)
    check_word(word)
    check_notice(word, notice)
    return chart


def sign_book(plan, ride, word, notice):
    """A sign book of the case, None if there is none."""
    chart = case_of(plan, ride, word, notice)
    if word == "least":
        layers = least_rows(chart, ride)
        told = said_in_rows(chart, layers)
        if least_late(chart, layers, told, notice) is not None:
            return None
        return [sorted([row + (rows[row],) for row in rows]) for rows in told]
    layers = now_rows(chart, Words(chart, ride))
    if least_misled(chart, layers, ride) is not None:
        return None
    return [sorted([row + (layer[row][0],) for row in layer]) for layer in layers]


def is_sign_book(plan, ride, word, notice, value):
    """Whether any value is a sign book of the case."""
    chart = case_of(plan, ride, word, notice)
    if not is_list(value, ride + 1, ride + 1):
        return False
    if not all([is_sign_table(chart, many, word, table) for many, table in enumerate(value)]):
        return False
    layers = [{row[:3]: row[3] for row in table} for table in value]
    if word == "least":
        return (first_of(chart), 0, 0) in layers[0] and do_say(chart, layers, notice)
    words = Words(chart, ride)
    if layers[0].get(first_now(words), None) != 0:
        return False
    if any([is_misled(row[2], departure_of(chart, ride, row[0])) for row in layers[-1]]):
        return False
    return do_close(chart, layers, lambda many, row, delays: now_behind(words, many, row, delays))


def is_sign_table(chart, many, word, value):
    """Whether any value is a sorted list of rows for many, no two alike but for their last part."""
    if not isinstance(value, (list, tuple)) or not all([is_sign_row(chart, many, word, row) for row in value]):
        return False
    return all([value[at][:3] < value[at + 1][:3] for at in range(len(value) - 1)])


def is_sign_row(chart, many, word, value):
    """Whether any value is a row of a sign book for many."""
    if not is_tuple(value, 4, 4) or not is_standing_at(chart, many, value[0]):
        return False
    if word == "least":
        return is_within(value[1], 0, chart.budget) and is_count(value[2]) and is_count(value[3])
    return is_count(value[1]) and are_stairs(value[2]) and is_within(value[3], 0, chart.budget)


def are_stairs(value):
    """Whether any value is a tuple of pairs of COUNTS that rise in both, the second of each above its first."""
    if not isinstance(value, tuple) or not all([is_pair(pair) for pair in value]):
        return False
    pairs = range(len(value) - 1)
    return all([value[at][0] < value[at + 1][0] and value[at][1] < value[at + 1][1] for at in pairs])


def is_pair(value):
    """Whether any value is a tuple of two COUNTS, the second above the first."""
    return is_tuple(value, 2, 2) and is_count(value[0]) and is_count(value[1]) and value[0] < value[1]


def do_say(chart, layers, notice):
    """Whether all rows of "least" say what they must, and no news come late."""
    last = len(layers) - 1
    if not all([layers[last][row] == departure_of(chart, last, row[0]) for row in layers[last]]):
        return False
    for many in range(last):
        for row, told in layers[many].items():
            behind = least_behind(chart, many, row, delays_let(chart, many, row[1]))
            if not behind or not all([after in layers[many + 1] for after in behind]):
                return False
            heard = [(layers[many + 1][after], after[2]) for after in behind]
            if told != min([minute for minute, _ in heard]):
                return False
            if any([minute > told and known + notice > told for minute, known in heard]):
                return False
    return True
