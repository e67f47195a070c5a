"""Pairs of standings of two plans that are compared: pair books, and courses in which answers differ."""

from citylines.basics import is_tuple, is_within
from citylines.days import is_course_of
from citylines.fields import is_standing_at
from citylines.layers import delays_let, do_close, filled, layers_from, lesser
from citylines.steps import first_of, steps_from, walked


class Pair:
    """The charts of two plans that are compared."""

    def __init__(self, one, other):
        self.one = one
        self.other = other
        self.first = (first_of(one), first_of(other))


def both_steps(pair, many, row, delays):
    """The list of the tuples of both steps from a row (standing, other) with each of these delays."""
    standing, other = row
    return list(zip(steps_from(pair.one, many, standing, delays), steps_from(pair.other, many, other, delays)))


def rows_behind(pair, many, row, delays):
    """The rows that come of a row by these delays."""
    return [(step[0], twin[0]) for step, twin in both_steps(pair, many, row, delays)]


def alike_behind(pair, many, row, delays):
    """The same, None in the place of each row behind unlike answers."""
    steps = both_steps(pair, many, row, delays)
    return [(step[0], twin[0]) if step[2:] == twin[2:] else None for step, twin in steps]


def pair_layers(pair):
    """The layers of the rows to which courses lead."""
    begin = (pair.first, 0)
    return layers_from(
        pair.one, 0, pair.one.many, begin, lambda many, row, delays: rows_behind(pair, many, row, delays)
    )


def least_unlike(pair, layers):
    """The least course, a tuple, in which some ride's answers differ; None if there is none."""
    best = None
    for many in range(pair.one.many):
        for row, (minutes, prefix) in layers[many].items():
            delays = delays_let(pair.one, many, minutes)
            for delay, behind in zip(delays, alike_behind(pair, many, row, delays)):
                if behind is None:
                    best = lesser(best, filled(pair.one, prefix + (delay,)))
    return best


def pair_book(pair):
    """The rows to which courses lead, a pair book; None if the plans are not alike."""
    layers = pair_layers(pair)
    if least_unlike(pair, layers) is not None:
        return None
    return [sorted([row + (layer[row][0],) for row in layer]) for layer in layers]


def unlike_course(pair):
    """The least course in which some ride's answers differ, a list; None if the plans are alike."""
    course = least_unlike(pair, pair_layers(pair))
    return None if course is None else list(course)


def is_unlike_course(pair, value):
    """Whether any value is a course in which some ride's answers differ."""
    if not is_course_of(pair.one, value):
        return False
    steps = list(zip(walked(pair.one, value), walked(pair.other, value)))
    return any([step[2:] != twin[2:] for step, twin in steps])


def is_pair_book(pair, value):
    """Whether any value is a pair book."""
    size = pair.one.many + 1
    if not isinstance(value, (list, tuple)) or len(value) != size:
        return False
    if not all([is_pair_table(pair, many, table) for many, table in enumerate(value)]):
        return False
    layers = [{row[:2]: row[2] for row in table} for table in value]
    if layers[0].get(pair.first, None) != 0:
        return False
    return do_close(pair.one, layers, lambda many, row, delays: alike_behind(pair, many, row, delays))


def is_pair_table(pair, many, value):
    """Whether any value is a sorted list of rows for many, no two with the same two standings."""
    if not isinstance(value, (list, tuple)) or not all([is_pair_row(pair, many, row) for row in value]):
        return False
    return all([value[at][:2] < value[at + 1][:2] for at in range(len(value) - 1)])


def is_pair_row(pair, many, value):
    """Whether any value is a tuple of a standing of the one plan, one of the other, and a COUNT to the budget."""
    if not is_tuple(value, 3, 3) or not is_standing_at(pair.one, many, value[0]):
        return False
    return is_standing_at(pair.other, many, value[1]) and is_within(value[2], 0, pair.one.budget)
