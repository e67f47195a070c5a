"""Remedies: what they leave of a plan, when one can be put, and what it saves, loses and takes."""

from citylines.basics import is_within, plain
from citylines.books import do_keep, reached_layers
from citylines.charts import chart_of
from citylines.courses import least_breaks
from citylines.errors import InvalidHeard, InvalidMeet, InvalidRemedy
from citylines.marks import can_be_put, MOST_REMEDIES
from citylines.meets import LONGEST_WAIT
from citylines.plans import check_plan, check_ride
from citylines.sheets import Sheet
from citylines.steps import minute_of


def is_run(plan, ride):
    """Whether the ride at this position is run."""
    check_plan(plan)
    check_ride(plan, ride)
    return Sheet(plan).runs[ride]


def run_hops(plan):
    """The list that has for each trip how many of its first hops are run."""
    check_plan(plan)
    return Sheet(plan).hops


def waits(plan):
    """The list that has for each meet the wait that it has now, None for a gone one."""
    check_plan(plan)
    return Sheet(plan).waits


def gone(plan):
    """The rising list of the positions of the promises that are gone."""
    check_plan(plan)
    return gone_of(Sheet(plan))


def gone_of(sheet):
    """The same, by the plan's sheet."""
    return [position for position, is_away in enumerate(sheet.gone) if is_away]


def is_remedy(plan, value):
    """Whether any value is a remedy that can be put into the plan now."""
    check_plan(plan)
    return is_remedy_now(plan, value)


def is_remedy_now(plan, value):
    """The same, of what is known to be a plan."""
    heard, remedies = plan[10:]
    return len(remedies) < MOST_REMEDIES and can_be_put(plan, remedies, len(heard), value)


def after(plan, remedy):
    """The plan after the remedy."""
    check_plan(plan)
    check_remedy(plan, remedy)
    return plan_after(plan, remedy)


def check_remedy(plan, remedy):
    """Raise InvalidRemedy unless it can be put now into what is known to be a plan."""
    if not is_remedy_now(plan, remedy):
        raise InvalidRemedy(remedy)


def plan_after(plan, remedy):
    """The plan after a remedy that is known to be right."""
    heard, remedies = plan[10:]
    return plain(plan[:11] + (remedies + ((len(heard), remedy),),))


def heard_more(plan, counts):
    """The plan with these further delays heard."""
    check_plan(plan)
    if not isinstance(counts, (list, tuple)):
        raise InvalidHeard(None)
    sheet = Sheet(plan)
    behind = sheet.bounds[len(sheet.heard):]
    left = sheet.budget - sum(sheet.heard)
    for position, count in enumerate(counts):
        if position == len(behind) or not is_within(count, 0, min(behind[position], left)):
            raise InvalidHeard(position)
        left = left - count
    return plain(plan[:10] + (plan[10] + tuple(counts), plan[11]))


def judged(plan):
    """The tuple (kept, fallen, gone) of the promises, the fallen ones with their least courses."""
    check_plan(plan)
    return judged_of(plan)


def judged_of(plan):
    """The same, of what is known to be a plan."""
    chart = chart_of(plan)
    courses = least_breaks(chart)
    away = gone_of(chart.sheet)
    kept = [position for position, course in enumerate(courses) if course is None and position not in away]
    return (kept, [(position, list(course)) for position, course in enumerate(courses) if course is not None], away)


def weighed(plan, remedy):
    """The tuple (saved, lost, taken) of what the remedy makes of the promises."""
    check_plan(plan)
    check_remedy(plan, remedy)
    kept, fallen, away = judged_of(plan)
    kept_then, fallen_then, away_then = judged_of(plan_after(plan, remedy))
    saved = [position for position, _ in fallen if position in kept_then]
    lost = [position for position, _ in fallen_then if position in kept]
    return (saved, lost, [position for position in away_then if position not in away])


def waits_that_keep(plan, meet):
    """The rising list of all waits of the meet after which no promise is fallen."""
    check_plan(plan)
    if not is_within(meet, 0, len(plan[6]) - 1) or not is_remedy_now(plan, ("wait", meet, 0)):
        raise InvalidMeet(meet)
    found = []
    for wait in range(LONGEST_WAIT + 1):
        chart = chart_of(plan_after(plan, ("wait", meet, wait)))
        layers = reached_layers(chart)
        keeps = do_keep(chart, layers)
        if keeps:
            found.append(wait)
        if is_never_late(chart, layers, meet):
            # A longer wait changes nothing from here on.
            return found + (list(range(wait + 1, LONGEST_WAIT + 1)) if keeps else [])
    return found


def is_never_late(chart, layers, meet):
    """Whether in all reached rows the meet's feeder comes by the minute till which its taker waits."""
    at = chart.sheet.sequence.index(chart.plan[6][meet][3:5])
    call = chart.calls[at]
    _, come, _, change, till, _ = call.feeders[call.meets.index(meet)]
    return all([minute_of(come, row) + change <= till for row in layers[at]])
