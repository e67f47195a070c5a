"""Least courses, what can break, and how late a ride can be."""

from citylines.books import reached_layers
from citylines.charts import chart_of
from citylines.days import is_course_of
from citylines.layers import delays_let, filled, lesser
from citylines.plans import check_plan, check_ride
from citylines.steps import steps_from, walked


def least_course(plan):
    """The least course of the plan, None if no course is breaking."""
    check_plan(plan)
    return least_course_of(chart_of(plan))


def least_course_of(chart):
    """The least course of the chart's plan, None if no course is breaking."""
    best = None
    for course in least_breaks(chart):
        best = lesser(best, course)
    return None if best is None else list(best)


def is_breaking(plan, value):
    """Whether any value is a course of the plan that is breaking."""
    check_plan(plan)
    chart = chart_of(plan)
    return is_course_of(chart, value) and any([step[3] != () for step in walked(chart, value)])


def breakable(plan):
    """The list of the least course of each promise, None where no course breaks it."""
    check_plan(plan)
    return [None if course is None else list(course) for course in least_breaks(chart_of(plan))]


def least_breaks(chart):
    """The list of the least course of each promise, a tuple, None where no course breaks it."""
    best = [None for _ in chart.plan[7]]
    for many, layer in enumerate(reached_layers(chart)[:-1]):
        for row, (minutes, prefix) in layer.items():
            delays = delays_let(chart, many, minutes)
            for delay, step in zip(delays, steps_from(chart, many, row, delays)):
                for promise, _ in step[3]:
                    best[promise] = lesser(best[promise], filled(chart, prefix + (delay,)))
    return best


def greatest_late(plan, ride):
    """The tuple of the ride's greatest lateness and its least course; None of a ride that is not run."""
    check_plan(plan)
    check_ride(plan, ride)
    chart = chart_of(plan)
    if not chart.sheet.runs[ride]:
        return None
    told = chart.sheet.told[ride][1]
    late, best = -1, None
    for row, (minutes, prefix) in reached_layers(chart)[ride].items():
        delays = delays_let(chart, ride, minutes)
        for delay, step in zip(delays, steps_from(chart, ride, row, delays)):
            own = step[1][1] - told
            if own > late:
                late, best = own, None
            if own == late:
                best = lesser(best, filled(chart, prefix + (delay,)))
    return (late, list(best))
