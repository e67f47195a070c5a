"""Fields, standings, steps: what is known ahead of a ride, and what comes behind it."""

from citylines.basics import is_count, is_tuple, is_within, plain
from citylines.charts import chart_of
from citylines.days import chart_for
from citylines.errors import InvalidDelay, InvalidMany, InvalidStanding
from citylines.plans import check_plan
from citylines.steps import first_of, standing_behind, steps_from


def fields(plan, many):
    """The list of the fields at many."""
    check_plan(plan)
    chart = chart_of(plan)
    check_many(many, chart.many)
    return list(chart.shapes[many])


def check_many(many, most):
    """Raise InvalidMany unless it is a COUNT to the most one."""
    if not is_within(many, 0, most):
        raise InvalidMany(many)


def first_standing(plan):
    """The first standing."""
    check_plan(plan)
    return first_of(chart_of(plan))


def standing(plan, course, many):
    """The standing of the course at many."""
    chart = chart_for(plan, course)
    check_many(many, chart.many)
    return standing_behind(chart, course[:many])


def step(plan, many, standing, delay):
    """The step from the standing at many with this delay: (standing, times, made, breaks)."""
    check_plan(plan)
    chart = chart_of(plan)
    check_many(many, chart.many - 1)
    if not is_standing_at(chart, many, standing):
        raise InvalidStanding(standing)
    if not is_within(delay, 0, chart.bounds[many]):
        raise InvalidDelay(delay)
    return steps_from(chart, many, plain(standing), [int(delay)])[0]


def is_standing_at(chart, many, value):
    """Whether any value is a standing at many."""
    shape = chart.shapes[many]
    if not is_tuple(value, len(shape), len(shape)) or not all([is_count(number) for number in value]):
        return False
    numbers = {field: number for field, number in zip(shape, value)}
    return all([is_field_number(chart, numbers, field) for field in shape])


def is_field_number(chart, numbers, field):
    """Whether the number of the field is within what the plan, and the numbers of other fields, let."""
    if field[0] == "level":
        return numbers[field] <= chart.plan[4][field[1]][3][0]
    if field[0] == "spares":
        return numbers[field] <= chart.plan[9][0]
    if field[0] == "left":
        return numbers[field] <= numbers.get(("end", field[1]), numbers[field])
    return True
