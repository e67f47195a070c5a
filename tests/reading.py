"""The tests' own reading of texts, by patterns of rows."""

import re

NUMERAL = "(?:0|[1-9][0-9]{0,29})"
SOME = f"{NUMERAL}(?: {NUMERAL})*"
OR_NONE = f"(?:{SOME}|-)"
CLOCK = "(?:(?:[0-2][0-9]|3[0-2]):[0-5][0-9]|33:[01][0-9])"
PROMISES = {"meets": 1, "leaves": 3, "ends": 2, "driven": 2, "long": 2}
REMEDIES = {"free": 1, "drop": 1, "wait": 2, "spare": 2, "cut": 2}


def worded(counts):
    return "(?:" + "|".join(word + f" {NUMERAL}" * many for word, many in counts.items()) + ")"


FORMS = {
    "zones": SOME, "changes": SOME, "walks": SOME, "drives": SOME, "bounds": SOME, "heard": SOME, "budget": NUMERAL,
    "line": f"{SOME} / {SOME} / {OR_NONE} / {NUMERAL}", "trip": f"{NUMERAL} / {CLOCK}(?: {CLOCK})*",
    "block": f"{SOME} / {OR_NONE}(?: / {NUMERAL} / {SOME} / {NUMERAL})?",
    "duty": f"{NUMERAL} {NUMERAL} {NUMERAL}(?: (?:walk|rest) {NUMERAL} {NUMERAL} {NUMERAL} {NUMERAL})*",
    "meet": f"{NUMERAL} {NUMERAL} {NUMERAL} {NUMERAL} {NUMERAL} (?:blind|news)", "promise": worded(PROMISES),
    "spares": f"{NUMERAL} {NUMERAL} {NUMERAL}", "remedy": f"{NUMERAL} {worded(REMEDIES)}",
}


def is_row(word, row):
    return re.fullmatch(f"{word} {FORMS[word]}", row) is not None


def first_bad(text):
    """The first bad row of a text, from 1 on; None if it is read."""
    rows = text.split("\n")
    at = 0

    def must(word):
        nonlocal at
        if at == len(rows) or not is_row(word, rows[at]):
            raise LookupError(at + 1)
        at += 1

    def begins(word):
        return at < len(rows) and rows[at].split(" ")[0] == word

    try:
        must("zones")
        many = len(rows[0].split(" ")) - 1
        for word in ["changes"] + ["walks"] * many + ["drives"] * many:
            must(word)
        trips = 0
        for word in ("line", "trip", "block", "duty", "meet", "promise"):
            while begins(word):
                must(word)
                trips += word == "trip"
        for word in ["bounds"] * trips + ["budget"]:
            must(word)
        for word in ("spares", "heard"):
            if begins(word):
                must(word)
        while begins("remedy"):
            must("remedy")
        if at < len(rows):
            raise LookupError(at + 1)
    except LookupError as error:
        return error.args[0]
    return None


def numbers(words):
    return () if words == "-" else tuple(int(word) for word in words.split(" "))


def minutes(words):
    return tuple(int(word[:2]) * 60 + int(word[3:]) for word in words.split(" "))


def told(row):
    """What a right row tells."""
    word, _, rest = row.partition(" ")
    groups = rest.split(" / ")
    if word == "line":
        return (word, numbers(groups[0]), numbers(groups[1]), numbers(groups[2]), int(groups[3]))
    if word == "trip":
        return (word, int(groups[0]), minutes(groups[1]))
    if word == "block":
        battery = (int(groups[2]), numbers(groups[3]), int(groups[4])) if len(groups) == 5 else None
        return (word, numbers(groups[0]), numbers(groups[1]), battery)
    if word == "duty":
        parts = re.split(" (walk|rest) ", rest)
        pieces, breaks = [numbers(parts[0])], []
        for kind, own in zip(parts[1::2], parts[2::2]):
            one, *piece = numbers(own)
            breaks.append((kind, one))
            pieces.append(tuple(piece))
        return (word, tuple(pieces), tuple(breaks))
    if word == "meet":
        return (word, *numbers(rest.rpartition(" ")[0]), rest.rpartition(" ")[2])
    if word == "promise":
        return (rest.partition(" ")[0], *numbers(rest.partition(" ")[2]))
    if word == "remedy":
        position, own, behind = rest.split(" ", 2)
        return (int(position), (own, *numbers(behind)))
    return int(rest) if word == "budget" else numbers(rest)


def read(text):
    """The value as which a text without a bad row is read."""
    rows = [(row.split(" ")[0], told(row)) for row in text.split("\n")]

    def all_of(word):
        return tuple(own for name, own in rows if name == word)

    city = ("city", *all_of("zones"), *all_of("changes"), all_of("walks"), all_of("drives"))
    parts = tuple(all_of(word) for word in ("line", "trip", "block", "duty", "meet", "promise"))
    spares, heard = (all_of("spares") + (None,))[0], (all_of("heard") + ((),))[0]
    return ("plan", city, *parts, (all_of("bounds"), all_of("budget")[0]), spares, heard, all_of("remedy"))


def route_at(words, at):
    """The route that begins there, and where the words behind it begin; LookupError if there is none."""
    word, rest = words[at], words[at + 1:]

    def told_by(pattern, many):
        if len(rest) < many or not all(re.fullmatch(pattern, own) for own in rest[:many]):
            raise LookupError
        return rest[:many]

    if word == "there":
        return ("there",), at + 1
    if word in ("walk", "ride"):
        many = 1 if word == "walk" else 2
        head = tuple(int(own) for own in told_by(NUMERAL, many))
        route, behind = route_at(words, at + 1 + many)
        return (word, *head, route), behind
    if word == "by":
        head = minutes(told_by(CLOCK, 1)[0])
        early, behind = route_at(words, at + 2)
        late, behind = route_at(words, behind)
        return (word, *head, early, late), behind
    raise LookupError


def deep(route):
    return 1 + max([deep(part) for part in route[1:] if isinstance(part, tuple)], default=0)


def read_way(text):
    """What the text of a way is read as, None if it is in no such form."""
    words = text.split(" ")
    try:
        if not re.fullmatch(NUMERAL, words[0]) or not re.fullmatch(CLOCK, words[1]):
            return None
        route, behind = route_at(words, 2)
    except LookupError:
        return None
    if behind < len(words) or deep(route) > 40:
        return None
    return (int(words[0]), *minutes(words[1]), route)
