"""Papers of claims: by the words of a claim, how one is made of its parts, and how any value is judged as one."""

from citylines.books import book, is_book
from citylines.charts import chart_of
from citylines.courses import is_breaking, least_course
from citylines.pairs import is_pair_book, is_unlike_course, Pair, pair_book, unlike_course
from citylines.profiles import are_same_for_riders, are_staircases, is_parting_rider, parting_rider, staircases
from citylines.riders import is_late_course, is_sure_book, late_course, sure_book
from citylines.signs import is_misleading, is_sign_book, late_news, misled, sign_book
from citylines.tickets import cheapest_cover, cover_price, is_cover, is_price_table, price_table


def make_keeps(parts):
    """A book of the plan, None if there is none."""
    return book(parts[0])


def judge_keeps(parts, value):
    """Whether any value is a book of the plan."""
    return is_book(parts[0], value)


def make_breaks(parts):
    """The least course of the plan, None if there is none."""
    return least_course(parts[0])


def judge_breaks(parts, value):
    """Whether any value is a breaking course of the plan."""
    return is_breaking(parts[0], value)


def make_safe(parts):
    """A sign book of the case, None if there is none."""
    plan, ride, word, notice = parts
    return sign_book(plan, ride, word, notice)


def judge_safe(parts, value):
    """Whether any value is a sign book of the case."""
    plan, ride, word, notice = parts
    return is_sign_book(plan, ride, word, notice, value)


def make_misleads(parts):
    """The least course that misleads in the case, None if there is none."""
    plan, ride, word, notice = parts
    return late_news(plan, ride, notice) if word == "least" else misled(plan, ride)


def judge_misleads(parts, value):
    """Whether any value is a course that misleads in the case."""
    plan, ride, word, notice = parts
    return is_misleading(plan, ride, word, notice, value)


def make_surely(parts):
    """A sure book of the way for the minute, None if there is none."""
    plan, way, minute = parts
    return sure_book(plan, way, minute)


def judge_surely(parts, value):
    """Whether any value is a sure book of the way for the minute."""
    plan, way, minute = parts
    return is_sure_book(plan, way, minute, value)


def make_perhaps(parts):
    """The least late course of the way for the minute, None if there is none."""
    plan, way, minute = parts
    return late_course(plan, way, minute)


def judge_perhaps(parts, value):
    """Whether any value is a late course of the way for the minute."""
    plan, way, minute = parts
    return is_late_course(plan, way, minute, value)


def pair_of_plans(parts):
    """Both plans, which are compared, side by side."""
    return Pair(chart_of(parts[0]), chart_of(parts[1]))


def make_alike(parts):
    """A pair book of both plans, None if there is none."""
    return pair_book(pair_of_plans(parts))


def judge_alike(parts, value):
    """Whether any value is a pair book of both plans."""
    return is_pair_book(pair_of_plans(parts), value)


def make_unlike(parts):
    """The least course in which some ride's answers differ, None if there is none."""
    return unlike_course(pair_of_plans(parts))


def judge_unlike(parts, value):
    """Whether any value is a course in which some ride's answers differ."""
    return is_unlike_course(pair_of_plans(parts), value)


def make_same(parts):
    """The list of all staircases of both plans, None if they have not the same ones."""
    return staircases(parts[0]) if are_same_for_riders(parts[0], parts[1]) else None


def judge_same(parts, value):
    """Whether any value is the list of all staircases of both plans."""
    return are_staircases(parts[0], value) and are_staircases(parts[1], value)


def make_parted(parts):
    """The least parting rider of both plans, None if there is none."""
    return parting_rider(parts[0], parts[1])


def judge_parted(parts, value):
    """Whether any value is a parting rider of both plans."""
    return is_parting_rider(parts[0], parts[1], value)


def make_within(parts):
    """A cover of at most the price, None if there is none."""
    tickets, passages, price = parts
    cover = cheapest_cover(tickets, passages)
    return cover if cover is not None and cover_price(tickets, cover) <= price else None


def judge_within(parts, value):
    """Whether any value is a cover of at most the price."""
    tickets, passages, price = parts
    return is_cover(tickets, passages, value) and cover_price(tickets, value) <= price


def is_above(cheapest, price):
    """Whether the price of all passages is above this one, or there is none."""
    return cheapest is None or cheapest > price


def make_above(parts):
    """A price table by which all passages are above the price, None if there is none."""
    tickets, passages, price = parts
    table = price_table(tickets, passages)
    return table if is_above(table[-1], price) else None


def judge_above(parts, value):
    """Whether any value is a price table by which all passages are above the price."""
    tickets, passages, price = parts
    return is_price_table(tickets, passages, value) and is_above(value[-1], price)


MAKERS = {
    "keeps": make_keeps, "breaks": make_breaks, "safe": make_safe, "misleads": make_misleads, "surely": make_surely,
    "perhaps": make_perhaps, "alike": make_alike, "unlike": make_unlike, "same": make_same, "parted": make_parted,
    "within": make_within, "above": make_above,
}
JUDGES = {
    "keeps": judge_keeps, "breaks": judge_breaks, "safe": judge_safe, "misleads": judge_misleads,
    "surely": judge_surely, "perhaps": judge_perhaps, "alike": judge_alike, "unlike": judge_unlike,
    "same": judge_same, "parted": judge_parted, "within": judge_within, "above": judge_above,
}


def made_paper(word, parts):
    """A paper of the claim of this word and these parts, None if it is not true."""
    make = MAKERS[word]
    return make(parts)


def is_judged(word, parts, value):
    """Whether any value is a paper of the claim of this word and these parts."""
    judge = JUDGES[word]
    return judge(parts, value)
