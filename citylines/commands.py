"""Commands: the words of deeds and questions, and what the parts of a command tell."""

from citylines.basics import DIGITS, is_clock, plain
from citylines.words import clocks_of, is_numeral, numbers_of

LETTERS = "abcdefghijklmnopqrstuvwxyz"
LONGEST_NAME = 12
COUNT_DIGITS = 6

# Behind the first word of each form stand the kinds of its parts: NEW, a name for something new; plan, way, tickets,
# passages, the name of such a thing; list, that of tickets or of passages; name, that of any; LABEL, one for a claim to
# be noted; KNOWN, one that is noted; COUNT, COUNTS, CLOCKS, WAY, TEXT as the document tells them. Any other word stands
# in the command as it is.
DEEDS = (
    "plan NEW TEXT", "way NEW plan TEXT", "tickets NEW", "passages NEW",
    "ticket tickets COUNT COUNT COUNTS COUNT", "passage passages COUNT COUNT COUNTS", "strike list COUNT",
    "budget plan COUNT", "bound plan COUNT COUNT COUNT", "spares plan -", "spares plan COUNT COUNT COUNT",
    "told plan COUNT CLOCKS", "meet plan COUNT COUNT COUNT COUNT COUNT WAY", "wait plan COUNT COUNT WAY",
    "part plan COUNT", "promise plan meets COUNT", "promise plan leaves COUNT COUNT COUNT",
    "promise plan ends COUNT COUNT", "promise plan driven COUNT COUNT", "promise plan long COUNT COUNT",
    "release plan COUNT", "hear plan COUNTS", "remedy plan wait COUNT COUNT", "remedy plan free COUNT",
    "remedy plan spare COUNT COUNT", "remedy plan drop COUNT", "remedy plan cut COUNT COUNT", "copy NEW name",
    "drop name", "claim LABEL keeps plan", "claim LABEL breaks plan", "claim LABEL safe plan COUNT least COUNT",
    "claim LABEL safe plan COUNT now", "claim LABEL misleads plan COUNT least COUNT",
    "claim LABEL misleads plan COUNT now", "claim LABEL surely plan way COUNT", "claim LABEL perhaps plan way COUNT",
    "claim LABEL alike plan plan", "claim LABEL unlike plan plan", "claim LABEL same plan plan",
    "claim LABEL parted plan plan", "claim LABEL within tickets passages COUNT",
    "claim LABEL above tickets passages COUNT", "forget KNOWN",
)
QUESTIONS = (
    "undo", "redo", "state KNOWN", "states", "claimed KNOWN", "names", "sort name", "show name", "equal name name",
    "heard plan", "next plan", "moment plan", "sign plan COUNT least", "sign plan COUNT now", "can plan", "least plan",
    "late plan COUNT", "price tickets passages",
)
NAMED = ("NEW", "LABEL", "KNOWN", "plan", "way", "tickets", "passages", "list", "name")


class Command:
    """A command: its line, whether it is a deed, its first word, the kinds of the parts behind that, what they tell."""

    def __init__(self, line, does, word, kinds, parts):
        self.line = line
        self.does = does
        self.word = word
        self.kinds = kinds
        self.parts = parts


def is_name(value):
    """Whether any value is a string as a name or a label is."""
    if not isinstance(value, str) or not 1 <= len(value) <= LONGEST_NAME:
        return False
    return value[0] in LETTERS and all([sign in LETTERS + DIGITS for sign in value])


def is_command(value):
    """Whether any value is a string that is a command by its words alone."""
    return command_of(value) is not None


def is_deed(value):
    """Whether any value is a string that is a deed by its words alone."""
    command = command_of(value)
    return command is not None and command.does


def command_of(value):
    """The command that any value is, None if it is none."""
    if not isinstance(value, str):
        return None
    line = plain(value)
    first = line.split(" ", 1)[0]
    for form in DEEDS + QUESTIONS:
        kinds = form.split(" ")[1:]
        if form.split(" ")[0] == first:
            # A text goes on to the end, with blanks of its own.
            words = line.split(" ", len(kinds))[1:] if kinds[-1:] == ["TEXT"] else line.split(" ")[1:]
            if are_parts(kinds, words):
                parts = [part_told(kind, word) for kind, word in zip(kinds, words)]
                return Command(line, form in DEEDS, first, kinds, parts)
    return None


def are_parts(kinds, words):
    """Whether the words are parts of these kinds, as many as there are."""
    return len(kinds) == len(words) and all([is_part(kind, word) for kind, word in zip(kinds, words)])


def is_part(kind, word):
    """Whether a word, or a text, is a part of this kind."""
    if kind in NAMED:
        return is_name(word)
    if kind == "COUNT":
        return is_numeral(word, COUNT_DIGITS)
    if kind == "COUNTS":
        return all([is_numeral(own, COUNT_DIGITS) for own in word.split(",")])
    if kind == "CLOCKS":
        return all([is_clock(own) for own in word.split(",")])
    if kind == "WAY":
        return word in ("blind", "news")
    return word == kind or (kind == "TEXT" and word != "")


def part_told(kind, word):
    """What a part of this kind tells: a number, a tuple of numbers or minutes, or its word."""
    if kind == "COUNT":
        return int(word)
    if kind == "COUNTS":
        return numbers_of(word.split(","))
    return clocks_of(word.split(",")) if kind == "CLOCKS" else word
