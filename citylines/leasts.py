"""Least books: all that a plan answers, in as few states as can be; plans alike, and the course that parts two."""

from citylines.charts import chart_of
from citylines.errors import NotCompared
from citylines.layers import delays_let, filled, layers_from, lesser
from citylines.plans import check_plan
from citylines.steps import first_of, steps_from


def least_book(plan):
    """The least book of the plan."""
    check_plan(plan)
    return least_book_of(chart_of(plan))


def least_book_of(chart):
    """The least book of the chart's plan."""
    layers = layers_from(chart, 0, chart.many, ((first_of(chart), 0), 0), spent_behind(chart))
    numbers = {row: 0 for row in layers[-1]}
    found = []
    for many in reversed(range(chart.many)):
        told = {row: answers(chart, many, row, numbers) for row in layers[many]}
        states = numbered(layers[many], told)
        numbers = {row: states[told[row]] for row in told}
        found.append(list(states))
    return found[::-1]


def spent_behind(chart):
    """The function that tells what comes of rows (standing, minutes spent)."""
    return lambda many, row, delays: [
        (step[0], row[1] + delay) for delay, step in zip(delays, steps_from(chart, many, row[0], delays))
    ]


def answers(chart, many, row, numbers):
    """The tuple with (next, made, breaks) for each delay that is let behind the row, by the numbers of what comes."""
    standing, spent = row
    delays = delays_let(chart, many, spent)
    found = []
    for delay, (behind, _, made, breaks) in zip(delays, steps_from(chart, many, standing, delays)):
        found.append((numbers[(behind, spent + delay)], made, breaks))
    return tuple(found)


def numbered(layer, told):
    """For each unlike answers of the layer's rows their number, by the first prefixes that lead to them, rising."""
    first = {}
    for row, (_, prefix) in layer.items():
        first[told[row]] = min(prefix, first.get(told[row], prefix))
    rising = sorted([(first[own], own) for own in first])
    return {own: number for number, (_, own) in enumerate(rising)}


def are_alike(plan, other):
    """Whether both plans are alike."""
    one, two = compared(plan, other)
    return least_book_of(one) == least_book_of(two)


def compared(plan, other):
    """The charts of two plans that are compared."""
    check_plan(plan)
    check_plan(other)
    one, two = chart_of(plan), chart_of(other)
    if not are_compared(one, two):
        raise NotCompared()
    return (one, two)


def are_compared(one, other):
    """Whether the plans of both charts have the same courses, as many meets and as many promises."""
    if one.bounds != other.bounds or one.budget != other.budget or one.heard != other.heard:
        return False
    return len(one.plan[6]) == len(other.plan[6]) and len(one.plan[7]) == len(other.plan[7])


def parting_course(plan, other):
    """The least of the courses in which some ride's answers differ, None if the plans are alike."""
    one, two = compared(plan, other)
    books = (least_book_of(one), least_book_of(two))
    if books[0] == books[1]:
        return None
    best = None
    pairs = {(0, 0): ()}
    for many in range(one.many):
        behind = {}
        for (state, twin), prefix in pairs.items():
            row, other_row = books[0][many][state], books[1][many][twin]
            for delay, told, other_told in zip(delays_said(one, many, row), row, other_row):
                longer = prefix + (delay,)
                pair = (told[0], other_told[0])
                if told[1:] != other_told[1:]:
                    best = lesser(best, filled(one, longer))
                else:
                    behind[pair] = lesser(behind.get(pair, None), longer)
        pairs = behind
    return list(best)


def delays_said(chart, many, row):
    """The delays of which a row of a least book tells."""
    return [chart.heard[many]] if many < len(chart.heard) else list(range(len(row)))
