"""INTEGERS, COUNTS and MINUTES, their clocks, and how values of any kind are looked at."""

from citylines.errors import InvalidMinute, InvalidText

LAST_MINUTE = 1999
DIGITS = "0123456789"


def is_integer(value):
    """Whether any value is an int that is no bool."""
    return isinstance(value, int) and not isinstance(value, bool)


def is_count(value):
    """Whether any value is an INTEGER that is at least 0."""
    return is_integer(value) and value >= 0


def is_within(value, least, most):
    """Whether any value is an INTEGER from the least one to the most one."""
    return is_integer(value) and least <= value <= most


def is_minute(value):
    """Whether any value is a MINUTE."""
    return is_within(value, 0, LAST_MINUTE)


def are_within(value, many, least, most):
    """Whether any value is a tuple of so many INTEGERS from the least one to the most one."""
    if not is_tuple(value, many, many):
        return False
    return all([is_within(part, least, most) for part in value])


def is_tuple(value, least, most):
    """Whether any value is a tuple of at least and at most so many parts."""
    return isinstance(value, tuple) and least <= len(value) <= most


def is_list(value, least, most):
    """Whether any value is a list, or a tuple in its place, of at least and at most so many parts."""
    return isinstance(value, (list, tuple)) and least <= len(value) <= most


def is_word(value, words):
    """Whether any value is one of these strings."""
    # Only strings are compared: an object of another kind could answer == with anything.
    return isinstance(value, str) and value in words


def is_named(value, word, many):
    """Whether any value is a tuple of so many parts, of which the first one is the word."""
    return is_tuple(value, many, many) and is_word(value[0], (word,))


def are_times(value, many):
    """Whether any value is a list of so many tuples (departure, arrival) of COUNTS, the arrival not ahead."""
    if not is_list(value, many, many):
        return False
    return all([is_time(part) for part in value])


def is_time(value):
    """Whether any value is a tuple (departure, arrival) of COUNTS, the arrival not ahead of the departure."""
    if not is_tuple(value, 2, 2):
        return False
    departure, arrival = value
    return is_count(departure) and is_count(arrival) and departure <= arrival


def is_same(value, told):
    """Whether any value is the told one, of INTEGERS, None, tuples and lists, a tuple standing for a list as well."""
    if told is None:
        return value is None
    if isinstance(told, tuple):
        return is_tuple(value, len(told), len(told)) and are_same(value, told)
    if isinstance(told, list):
        return is_list(value, len(told), len(told)) and are_same(value, told)
    return is_integer(value) and value == told


def are_same(value, told):
    """Whether each part of the value is the told one, where there are as many."""
    return all([is_same(part, own) for part, own in zip(value, told)])


def plain(value):
    """The same value of tuples, lists, INTEGERS, strings and None, of no class of their own."""
    if isinstance(value, tuple):
        return tuple([plain(part) for part in value])
    if isinstance(value, list):
        return [plain(part) for part in value]
    if isinstance(value, str):
        # A slice, as str of a string of a class of its own may tell something else.
        return value[:]
    return None if value is None else int(value)


def clock_text(minute):
    """The clock of a MINUTE."""
    if not is_minute(minute):
        raise InvalidMinute(minute)
    hours, rest = divmod(minute, 60)
    return f"{hours:02d}:{rest:02d}"


def clock_of(text):
    """The MINUTE of which the text is the clock."""
    if not is_clock(text):
        raise InvalidText(text)
    return clock_minute(text)


def is_clock(value):
    """Whether any value is the clock of a MINUTE."""
    if not isinstance(value, str) or len(value) != 5 or value[2] != ":":
        return False
    # Not isdigit: it takes the digits of other scripts, too, and int reads them.
    if not all([sign in DIGITS for sign in value[:2] + value[3:]]):
        return False
    return int(value[3:]) < 60 and is_minute(clock_minute(value))


def clock_minute(text):
    """The minute that two digits, a colon and two digits tell."""
    return int(text[:2]) * 60 + int(text[3:])
