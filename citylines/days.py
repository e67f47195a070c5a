"""Days: a plan's course worked out ride by ride."""

from citylines.basics import is_count, is_list
from citylines.charts import chart_of
from citylines.errors import InvalidCourse
from citylines.meets import quiet_of
from citylines.plans import check_plan, check_ride
from citylines.steps import arrival_of, first_of, Leaving, minute_of, walked


def is_course(plan, value):
    """Whether any value is a course of the plan."""
    check_plan(plan)
    return is_course_of(chart_of(plan), value)


def is_course_of(chart, value):
    """Whether any value is a course of the chart's plan."""
    if not is_list(value, chart.many, chart.many) or not all([is_count(delay) for delay in value]):
        return False
    if not all([delay <= bound for delay, bound in zip(value, chart.bounds)]) or sum(value) > chart.budget:
        return False
    return list(value[:len(chart.heard)]) == list(chart.heard)


def chart_for(plan, course):
    """The chart of the plan: InvalidPlan, InvalidCourse."""
    check_plan(plan)
    chart = chart_of(plan)
    if not is_course_of(chart, course):
        raise InvalidCourse(course)
    return chart


def day(plan, course):
    """The day of a course."""
    return day_of(chart_for(plan, course), course)


def day_of(chart, course):
    """The day of what is known to be a course."""
    steps = walked(chart, course)
    times = tuple([step[1] for step in steps])
    made = [meet for step in steps for meet in step[2]]
    waits = chart.sheet.waits
    breaks = [(at, promise, by) for at, step in enumerate(steps) for promise, by in step[3]]
    return ("day", times, tuple([None if wait is None else at in made for at, wait in enumerate(waits)]), tuple(breaks))


def told_day(plan):
    """The day of the plan without spares, with nothing heard and no remedies, without delays."""
    check_plan(plan)
    chart = chart_of(plan[:9] + (None, (), ()))
    return day_of(chart, [0 for _ in range(chart.many)])


def reasons(plan, course, ride):
    """Both lists of reasons of the ride at this position."""
    chart = chart_for(plan, course)
    check_ride(plan, ride)
    if not chart.sheet.runs[ride]:
        return ([], [])
    standing = first_of(chart)
    for step in walked(chart, course[:ride]):
        standing = step[0]
    call = chart.calls[ride]
    leaving = Leaving(call, standing)
    departure = leaving.departure
    if departure == leaving.ready:
        why = [(word,) for word, minute in leaving.minutes if minute == departure]
    else:
        # Who asks at the minute ahead of the departure is first quiet at the departure.
        why = [("meet", meet) for meet, feed in zip(call.meets, leaving.feeds) if quiet_of(feed) == departure]
    arrival = arrival_of(call, standing, departure, course[ride])
    behind = []
    if arrival == departure + call.least + course[ride]:
        behind.append(("delay",))
    if call.ahead is not None and arrival == minute_of(call.ahead[1], standing):
        behind.append(("apart",))
    return (why, behind)
