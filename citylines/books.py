"""Reached tables, and books: papers that all promises are kept in every course."""

from citylines.basics import is_list, is_tuple, is_within
from citylines.charts import chart_of
from citylines.fields import is_standing_at
from citylines.layers import delays_let, do_close, layers_from
from citylines.plans import check_plan
from citylines.steps import first_of, steps_from


def reached(plan):
    """The list of the reached tables."""
    check_plan(plan)
    return tables_of(reached_layers(chart_of(plan)))


def reached_layers(chart):
    """The layers of the standings from the first one on."""
    return standing_layers(chart, 0, chart.many, (first_of(chart), 0))


def standing_layers(chart, first, last, begin):
    """The layers of the standings from the first position to the last one, where begin is (standing, minutes)."""
    return layers_from(chart, first, last, begin, lambda many, row, delays: standings_behind(chart, many, row, delays))


def standings_behind(chart, many, row, delays):
    """The standings that come of a standing by these delays."""
    return [step[0] for step in steps_from(chart, many, row, delays)]


def tables_of(layers):
    """The layers as lists of tuples (row, minutes), sorted."""
    return [sorted([(row, layer[row][0]) for row in layer]) for layer in layers]


def book(plan):
    """The reached tables if nothing breaks in them, otherwise None."""
    check_plan(plan)
    chart = chart_of(plan)
    layers = reached_layers(chart)
    return tables_of(layers) if do_keep(chart, layers) else None


def do_keep(chart, layers):
    """Whether no step from a row of the reached layers breaks a promise."""
    for many in range(chart.many):
        for row, (minutes, _) in layers[many].items():
            if None in kept_behind(chart, many, row, delays_let(chart, many, minutes)):
                return False
    return True


def kept_behind(chart, many, row, delays):
    """The standings that come of a standing by these delays, None in the place of each with a break."""
    return [None if step[3] else step[0] for step in steps_from(chart, many, row, delays)]


def is_book(plan, value):
    """Whether any value is a book of the plan."""
    check_plan(plan)
    chart = chart_of(plan)
    size = chart.many + 1
    if not is_list(value, size, size):
        return False
    if not all([is_table(chart, many, table) for many, table in enumerate(value)]):
        return False
    layers = [{row[0]: row[1] for row in table} for table in value]
    if layers[0].get(first_of(chart), None) != 0:
        return False
    return do_close(chart, layers, lambda many, row, delays: kept_behind(chart, many, row, delays))


def is_table(chart, many, value):
    """Whether any value is a sorted list of tuples (standing, number) at many, no standing twice."""
    if not isinstance(value, (list, tuple)) or not all([is_row(chart, many, row) for row in value]):
        return False
    return all([value[at][0] < value[at + 1][0] for at in range(len(value) - 1)])


def is_row(chart, many, value):
    """Whether any value is a tuple of a standing at many and a COUNT to the budget."""
    if not is_tuple(value, 2, 2):
        return False
    return is_standing_at(chart, many, value[0]) and is_within(value[1], 0, chart.budget)
