"""Words of texts and commands: numerals, clocks, and rows of them."""

from citylines.basics import clock_minute, DIGITS, is_clock

MOST_DIGITS = 30


def is_numeral(word, most):
    """Whether a string is a numeral of at most so many digits."""
    if not 1 <= len(word) <= most or not all([sign in DIGITS for sign in word]):
        return False
    return word[0] != "0" or word == "0"


def numbers_of(words):
    """The tuple of the numbers that numerals tell, at least one; None if the words are something else."""
    if not words or not all([is_numeral(word, MOST_DIGITS) for word in words]):
        return None
    return tuple([int(word) for word in words])


def numbers_or_none(words):
    """The same, where a single - stands for no numbers."""
    return () if words == ["-"] else numbers_of(words)


def number_alone(words):
    """The number that just one numeral tells, None if the words are something else."""
    return numbers_of(words)[0] if len(words) == 1 and numbers_of(words) is not None else None


def numbers_just(words, many):
    """The tuple of the numbers that just so many numerals tell, at least one; None if the words are something else."""
    return numbers_of(words) if len(words) == many else None


def clocks_of(words):
    """The tuple of the minutes that clocks tell, at least one; None if the words are something else."""
    if not words or not all([is_clock(word) for word in words]):
        return None
    return tuple([clock_minute(word) for word in words])


def groups_of(words):
    """The list of the lists of words between which / stands."""
    groups = [[]]
    for word in words:
        if word == "/":
            groups.append([])
        else:
            groups[-1].append(word)
    return groups


def worded(words, many):
    """The tuple of the first word and of just so many numbers behind it; None if the words are something else."""
    behind = numbers_just(words[1:], many)
    return None if behind is None else (words[0],) + behind


def first_word(words):
    """The first word, an empty one if there is none."""
    return words[0] if words else ""


def spaced(parts):
    """The words and numerals of the parts, with one blank between."""
    return " ".join([str(part) for part in parts])


def spaced_or_none(numbers):
    """The same, - for no numbers."""
    return spaced(numbers) if len(numbers) > 0 else "-"
