"""Rows of the texts of plans: what each of them tells."""

from citylines.meets import WAYS
from citylines.words import clocks_of, first_word, groups_of, number_alone, numbers_just, numbers_of, numbers_or_none
from citylines.words import worded

PROMISE_NUMBERS = {"meets": 1, "leaves": 3, "ends": 2, "driven": 2, "long": 2}
BREAKS = ("walk", "rest")
REMEDY_NUMBERS = {"wait": 2, "free": 1, "spare": 2, "drop": 1, "cut": 2}

# Each reader takes the words of a row behind its first one; None comes of words that are no such row.


def read_numbers(words):
    """What a row of numerals alone tells."""
    return numbers_of(words)


def read_number(words):
    """What a row of one numeral tells."""
    return number_alone(words)


def read_spares(words):
    """What a row `spares` tells."""
    return numbers_just(words, 3)


def read_line(words):
    """What a row `line` tells."""
    groups = groups_of(words)
    if len(groups) != 4:
        return None
    stops, leasts, stands = numbers_of(groups[0]), numbers_of(groups[1]), numbers_or_none(groups[2])
    return known("line", (stops, leasts, stands, number_alone(groups[3])))


def known(word, parts):
    """The tuple of the word and the parts, None if one of the parts is None."""
    return None if None in parts else (word,) + parts


def read_trip(words):
    """What a row `trip` tells."""
    groups = groups_of(words)
    if len(groups) != 2:
        return None
    return known("trip", (number_alone(groups[0]), clocks_of(groups[1])))


def read_block(words):
    """What a row `block` tells."""
    groups = groups_of(words)
    if len(groups) not in (2, 5):
        return None
    block = known("block", (numbers_of(groups[0]), numbers_or_none(groups[1])))
    if block is None or len(groups) == 2:
        return None if block is None else block + (None,)
    battery = (number_alone(groups[2]), numbers_of(groups[3]), number_alone(groups[4]))
    return None if None in battery else block + (battery,)


def read_duty(words):
    """What a row `duty` tells."""
    # Behind the first piece a break and a piece come by turns: two words and three.
    pieces = [numbers_just(words[at:at + 3], 3) for at in range(0, len(words), 5)]
    breaks = [worded(words[at:at + 2], 1) if words[at] in BREAKS else None for at in range(3, len(words), 5)]
    if None in pieces or None in breaks or len(pieces) != len(breaks) + 1:
        return None
    return ("duty", tuple(pieces), tuple(breaks))


def read_meet(words):
    """What a row `meet` tells."""
    numbers = numbers_just(words[:-1], 5)
    return None if numbers is None or words[-1] not in WAYS else ("meet",) + numbers + (words[-1],)


def read_promise(words):
    """What a row `promise` tells."""
    return worded(words, PROMISE_NUMBERS.get(first_word(words), 0))


def read_remedy(words):
    """What a row `remedy` tells."""
    position, remedy = number_alone(words[:1]), worded(words[1:], REMEDY_NUMBERS.get(first_word(words[1:]), 0))
    return None if position is None or remedy is None else (position, remedy)


READERS = {
    "zones": read_numbers, "changes": read_numbers, "walks": read_numbers, "drives": read_numbers, "line": read_line,
    "trip": read_trip, "block": read_block, "duty": read_duty, "meet": read_meet, "promise": read_promise,
    "bounds": read_numbers, "budget": read_number, "spares": read_spares, "heard": read_numbers, "remedy": read_remedy,
}
