"""Claims, each with its contrary; whether they are true, and papers of them."""

from citylines.basics import is_within, is_word, plain
from citylines.charts import chart_of
from citylines.errors import InvalidClaim
from citylines.leasts import are_compared
from citylines.papers import is_judged, made_paper
from citylines.plans import is_plan
from citylines.riders import LAST_ARRIVAL
from citylines.routes import is_way_of
from citylines.sheets import Sheet
from citylines.signs import LONGEST_NOTICE
from citylines.tickets import are_passages, are_tickets, DEAREST_TABLE

WORDS = (
    ("keeps", "breaks"), ("safe", "misleads"), ("surely", "perhaps"), ("alike", "unlike"), ("same", "parted"),
    ("within", "above"),
)


def words():
    """The list of the tuples of the two words of each line."""
    return list(WORDS)


def are_plan_parts(parts):
    """Whether any values are a plan alone."""
    return len(parts) == 1 and is_plan(parts[0])


def are_case_parts(parts):
    """Whether any values are a plan and a case of it."""
    if len(parts) != 4 or not is_plan(parts[0]):
        return False
    plan, ride, word, notice = parts
    runs = Sheet(plan).runs
    if not is_within(ride, 0, len(runs) - 1) or not runs[ride] or not is_word(word, ("least", "now")):
        return False
    return is_within(notice, 0, LONGEST_NOTICE if word == "least" else 0)


def are_rider_parts(parts):
    """Whether any values are a plan, a way of it and a minute."""
    if len(parts) != 3 or not is_plan(parts[0]):
        return False
    plan, way, minute = parts
    return is_way_of(plan, way) and is_within(minute, 0, LAST_ARRIVAL)


def are_compared_parts(parts):
    """Whether any values are two plans that are compared."""
    if len(parts) != 2 or not all([is_plan(plan) for plan in parts]):
        return False
    return are_compared(chart_of(parts[0]), chart_of(parts[1]))


def are_city_parts(parts):
    """Whether any values are two plans with as many stops."""
    if len(parts) != 2 or not all([is_plan(plan) for plan in parts]):
        return False
    return len(parts[0][1][1]) == len(parts[1][1][1])


def are_price_parts(parts):
    """Whether any values are tickets, passages and a price."""
    if len(parts) != 3:
        return False
    tickets, passages, price = parts
    return are_tickets(tickets) and are_passages(passages) and is_within(price, 0, DEAREST_TABLE)


# For both words of a line what its parts must be.
PARTS = {
    "keeps": are_plan_parts, "breaks": are_plan_parts, "safe": are_case_parts, "misleads": are_case_parts,
    "surely": are_rider_parts, "perhaps": are_rider_parts, "alike": are_compared_parts, "unlike": are_compared_parts,
    "same": are_city_parts, "parted": are_city_parts, "within": are_price_parts, "above": are_price_parts,
}


def is_claim(value):
    """Whether any value is a claim."""
    if not isinstance(value, tuple) or len(value) == 0 or not isinstance(value[0], str) or value[0] not in PARTS:
        return False
    check = PARTS[value[0]]
    return check(value[1:])


def check_claim(claim):
    """Raise InvalidClaim unless it is a claim."""
    if not is_claim(claim):
        raise InvalidClaim(claim)


def contrary(claim):
    """The contrary of the claim."""
    check_claim(claim)
    return contrary_of(plain(claim))


def contrary_of(claim):
    """The same, of what is known to be a claim."""
    one, other = pair_of(claim[0])
    return (other if claim[0] == one else one,) + claim[1:]


def pair_of(word):
    """The two words of the word's line."""
    return [pair for pair in WORDS if word in pair][0]


def is_true(claim):
    """Whether the claim is true."""
    check_claim(claim)
    return is_true_of(claim)


def is_true_of(claim):
    """The same, of what is known to be a claim."""
    # Of a claim and its contrary just one is true; by the first word of the line what TooMany tells of is the same.
    first, _ = pair_of(claim[0])
    return (made_paper(first, claim[1:]) is not None) == (claim[0] == first)


def paper_of(claim):
    """A paper of the claim, None if it is not true."""
    check_claim(claim)
    return made_paper(claim[0], claim[1:])


def is_paper_of(claim, value):
    """Whether any value is a paper of the claim."""
    check_claim(claim)
    return is_judged(claim[0], claim[1:], value)
