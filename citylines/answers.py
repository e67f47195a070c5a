"""Answers: what questions about a world are answered."""

from citylines.charts import chart_of
from citylines.courses import breakable, greatest_late, least_course
from citylines.layers import filled
from citylines.signs import said
from citylines.stairs import moment_of
from citylines.steps import walked
from citylines.texts import text_of_plan, text_of_way
from citylines.tickets import cheapest
from citylines.worlds import states_told, thing_of

# Each answer is made of the world, and of what the parts of the question tell.


def commas(numbers):
    """The numbers with commas between, - for none."""
    return ",".join([str(number) for number in numbers]) if len(numbers) > 0 else "-"


def rows_told(rows):
    """The rows, lists of words, with line feeds between, - for none."""
    return "\n".join([" ".join(row) for row in rows]) if rows else "-"


def told_or_none(value):
    """The number, - for None."""
    return "-" if value is None else str(value)


def state_told(world, parts):
    """The state of the label."""
    return world.noted[parts[0]].state


def all_states(world, parts):
    """All labels with their states."""
    return states_told(world, sorted(world.noted))


def claim_told(world, parts):
    """The claim of the label, in its words."""
    return world.noted[parts[0]].said


def names_told(world, parts):
    """The names."""
    return " ".join(sorted(world.kept)) if len(world.kept) > 0 else "-"


def sort_told(world, parts):
    """The sort of what is kept under the name."""
    return world.kept[parts[0]][0]


def thing_told(world, parts):
    """The text of what is kept under the name."""
    sort, thing = world.kept[parts[0]]
    if sort == "plan":
        return text_of_plan(thing)
    if sort == "way":
        return text_of_way(thing)
    if sort == "tickets":
        rows = [[price, minutes, commas(zones), persons] for _, price, minutes, zones, persons in thing]
    else:
        rows = [[begin, end, commas(zones)] for begin, end, zones in thing]
    return rows_told([[str(part) for part in row] for row in rows])


def equal_told(world, parts):
    """Whether what is kept under both names is of one sort, and equal."""
    return "yes" if world.kept[parts[0]] == world.kept[parts[1]] else "no"


def plan_named(world, parts):
    """The plan of which a question asks."""
    return world.kept[parts[0]][1]


def heard_told(world, parts):
    """For each ride that is heard its trip and hop, its departure and its arrival."""
    chart = chart_of(plan_named(world, parts))
    rows = list(zip(chart.sheet.sequence, walked(chart, chart.heard)))
    return rows_told([[told_or_none(part) for part in ride + step[1]] for ride, step in rows])


def next_told(world, parts):
    """The first ride behind what is heard."""
    chart = chart_of(plan_named(world, parts))
    rides = chart.sheet.sequence[len(chart.heard):]
    return rows_told([[str(part) for part in ride] for ride in rides[:1]])


def moment_told(world, parts):
    """The moment of what is heard."""
    chart = chart_of(plan_named(world, parts))
    return str(moment_of(walked(chart, chart.heard)))


def sign_told(world, parts):
    """What the sign for the ride says where just what is heard is known."""
    plan = plan_named(world, parts)
    _, ride, word = parts
    return str(said(plan, filled(chart_of(plan), ()), len(plan[10]), ride, word))


def can_told(world, parts):
    """The positions of the promises that some course breaks."""
    courses = breakable(plan_named(world, parts))
    return commas([position for position, course in enumerate(courses) if course is not None])


def least_told(world, parts):
    """The least course."""
    course = least_course(plan_named(world, parts))
    return "-" if course is None else commas(course)


def late_told(world, parts):
    """The greatest lateness of the ride."""
    late = greatest_late(plan_named(world, parts), parts[1])
    return "-" if late is None else str(late[0])


def price_told(world, parts):
    """The cheapest price."""
    return told_or_none(cheapest(thing_of(world, parts[0]), thing_of(world, parts[1])))


ANSWERS = {
    "state": state_told, "states": all_states, "claimed": claim_told, "names": names_told, "sort": sort_told,
    "show": thing_told, "equal": equal_told, "heard": heard_told, "next": next_told, "moment": moment_told,
    "sign": sign_told, "can": can_told, "least": least_told, "late": late_told, "price": price_told,
}


def answered(world, command):
    """The answer to the question of a command of which names and labels are right."""
    answer = ANSWERS[command.word]
    return answer(world, command.parts)
