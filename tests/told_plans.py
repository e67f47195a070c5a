"""The plans of which the document tells, made by hand, and a rich one with a part of each kind."""

from helpers import even_table


def plan_of(
    lines, trips, blocks=None, duties=None, meets=(), promises=(), bounds=None, budget=0, spares=None, heard=(),
    remedies=(), stops=4, changes=0, walk=5,
):
    """A plan in an even city: lines as (stops, leasts, stands), trips as (line, told); what is not told is plain."""
    city = ("city", (1,) * stops, (changes,) * stops, even_table(stops, walk), even_table(stops, 1))
    lines = tuple(("line", *line, 1) for line in lines)
    trips = tuple(("trip", line, told) for line, told in trips)
    if blocks is None:
        blocks = tuple(("block", (at,), (), None) for at in range(len(trips)))
    if duties is None:
        duties = tuple(("duty", ((at, 0, len(trip[2]) - 1),), ()) for at, trip in enumerate(trips))
    if bounds is None:
        bounds = tuple((0,) * len(trip[2]) for trip in trips)
    return (
        "plan", city, lines, trips, blocks, duties, meets, promises, (bounds, budget), spares, tuple(heard),
        tuple(remedies),
    )


def alone(*trips):
    """A block without a battery and without turns for each of these rows of trips."""
    return tuple(("block", own, (0,) * (len(own) - 1), None) for own in trips)


def overview(bound=5, budget=5, way="news", promises=(("leaves", 1, 0, 2),), wait=3):
    """[1], [48], [58]: a feeder told to come at 10, a walk of a minute, a taker told to leave at 12."""
    return plan_of(
        [((0, 1), (10,), ()), ((2, 3), (7,), ())], [(0, (0,)), (1, (12,))], meets=(("meet", 0, 0, 1, 0, wait, way),),
        promises=promises, bounds=((bound,), (0,)), budget=budget, walk=1,
    )


# [34]: two feeders by news, of two rides each; the second ride of each takes 2 minutes, and the change 1.
TWO_FEEDERS = plan_of(
    [((0, 1, 2), (7, 2), (0,)), ((0, 1, 2), (7, 2), (0,)), ((2, 3), (7,), ())],
    [(0, (0, 9)), (1, (0, 9)), (2, (12,))],
    meets=(("meet", 0, 1, 2, 0, 5, "news"), ("meet", 1, 1, 2, 0, 5, "news")),
    bounds=((9, 9), (9, 9), (0,)), budget=20, changes=1,
)

# [39]: a delay more, and the last trip leaves three minutes sooner. The feeder is told to come when it is to leave.
CHARGED = plan_of(
    [((0, 1), (10,), ()), ((1, 2, 1), (1, 5), (0,)), ((1, 0), (10,), ()), ((3, 1), (10,), ())],
    [(0, (0,)), (1, (20, 40)), (2, (50,)), (3, (10,))],
    blocks=(("block", (0, 1, 2), (0, 0), (30, (15, 10, 20), 1)), ("block", (3,), (), None)),
    meets=(("meet", 3, 0, 1, 0, 9, "blind"),), bounds=((3,), (0, 0), (0,), (9,)), budget=12,
)

# [54]: the cases in which a promise turns.
CASE_A = plan_of(
    [((0, 1), (10,), ()), ((2, 1), (10,), ()), ((1, 3), (10,), ())], [(0, (2,)), (1, (2,)), (2, (12,))],
    meets=(("meet", 0, 0, 2, 0, 0, "blind"), ("meet", 1, 0, 2, 0, 5, "blind")), promises=(("meets", 0),),
    bounds=((2,), (3,), (0,)), budget=5,
)
CASE_B = plan_of(
    [((0, 1), (5,), ()), ((1, 2, 3), (10, 10), (0,))], [(0, (5,)), (1, (10, 30))], blocks=alone((0, 1)),
    promises=(("driven", 1, 32),), bounds=((3,), (0, 3)), budget=6,
)
CASE_C = overview()
# Two feeders, the second one told to come two minutes sooner: its third minute is worth the first one's first one.
SLACK = plan_of(
    [((0, 1), (10,), ()), ((2, 1), (5,), ()), ((1, 3, 0), (10, 10), (0,))], [(0, (2,)), (1, (5,)), (2, (12, 22))],
    meets=(("meet", 0, 0, 2, 0, 9, "blind"), ("meet", 1, 0, 2, 0, 9, "blind")), promises=(("ends", 2, 0), ("leaves", 2, 1, 1)),
    bounds=((3,), (5,), (0, 0)), budget=6,
)
CASE_D = plan_of(
    [((0, 1), (10,), ()), ((1, 2, 3), (10, 10), (2,)), ((3, 0), (10,), ()), ((2, 1), (10,), ())],
    [(0, (0,)), (1, (20, 35)), (2, (50,)), (3, (10,))],
    blocks=(("block", (0, 1, 2), (0, 0), (20, (10, 10, 15), 1)), ("block", (3,), (), None)),
    meets=(("meet", 3, 0, 1, 0, 5, "blind"),), promises=(("leaves", 2, 0, 2),), bounds=((3,), (0, 0), (0,), (3,)),
    budget=6,
)


def case_e(spares):
    return plan_of(
        [((0, 1), (10,), ()), ((2, 1), (10,), ()), ((1, 3), (10,), ())], [(0, (2,)), (1, (2,)), (2, (12,))],
        blocks=alone((0, 2), (1,)), meets=(("meet", 1, 0, 2, 0, 0, "blind"),), promises=(("meets", 0),),
        bounds=((8,), (6,), (0,)), budget=14, spares=spares,
    )


# [79]: three stops, changes of 2 minutes; a trip of line 0 feeds one of line 1, behind which another one comes.
TRIO = (
    "plan", ("city", (1, 1, 1), (2, 2, 2), ((0, 20, 30), (20, 0, 20), (30, 20, 0)), ((0, 4, 6), (4, 0, 4), (6, 4, 0))),
    (("line", (0, 1), (5,), (), 3), ("line", (1, 2), (5,), (), 3)),
    (("trip", 0, (10,)), ("trip", 1, (18,)), ("trip", 1, (30,))),
    (("block", (0,), (), None), ("block", (1,), (), None), ("block", (2,), (), None)),
    (("duty", ((0, 0, 0),), ()), ("duty", ((1, 0, 0),), ()), ("duty", ((2, 0, 0),), ())),
    (("meet", 0, 0, 1, 0, 2, "blind"),), (), (((4,), (0,), (0,)), 4), None, (), (),
)

# With batteries, spares, something heard, a remedy of each kind, meets of both ways, and promises of all kinds.
RICH = (
    "plan",
    (
        "city", (2, 4, 1, 4), (1, 0, 1, 0), ((0, 4, 2, 3), (4, 0, 2, 4), (2, 2, 0, 3), (3, 4, 3, 0)),
        ((0, 1, 1, 3), (1, 0, 1, 2), (1, 1, 0, 3), (3, 2, 3, 0)),
    ),
    (("line", (2, 3, 1), (5, 4), (2,), 3), ("line", (2, 3), (3,), (), 4), ("line", (1, 2), (3,), (), 3)),
    (
        ("trip", 0, (1, 13)), ("trip", 2, (8,)), ("trip", 0, (15, 22)), ("trip", 1, (18,)), ("trip", 0, (22, 29)),
        ("trip", 1, (25,)),
    ),
    (
        ("block", (0, 3), (1,), None), ("block", (1, 2), (0,), (19, (15, 11), 2)), ("block", (4,), (), (8, (3,), 1)),
        ("block", (5,), (), (15, (1,), 3)),
    ),
    (
        ("duty", ((0, 1, 1), (4, 0, 0)), (("rest", 2),)), ("duty", ((0, 0, 0), (2, 0, 1)), (("walk", 3),)),
        ("duty", ((1, 0, 0),), ()), ("duty", ((3, 0, 0), (5, 0, 0)), (("walk", 3),)), ("duty", ((4, 1, 1),), ()),
    ),
    (
        ("meet", 0, 1, 2, 1, 1, "blind"), ("meet", 3, 0, 5, 0, 5, "news"), ("meet", 5, 0, 4, 1, 3, "blind"),
        ("meet", 3, 0, 2, 1, 2, "news"),
    ),
    (
        ("driven", 1, 27), ("meets", 2), ("long", 2, 5), ("leaves", 0, 1, 2), ("meets", 3), ("leaves", 0, 1, 0),
        ("ends", 3, 3), ("driven", 3, 11),
    ),
    (((1, 1), (3,), (2, 2), (1,), (1, 3), (3,)), 5),
    (1, 0, 3),
    (1, 0),
    (
        (0, ("wait", 3, 4)), (1, ("spare", 3, 1)), (2, ("free", 1)), (2, ("drop", 5)), (2, ("cut", 4, 0)),
    ),
)
