"""Worlds: all that a desk keeps at one time, and how the states of its labels stand then.

A world is never changed: a deed makes another one, so that it can be taken back.
"""

from citylines.claims import is_claim, is_true_of
from citylines.errors import LabelTaken, NameTaken, TooMany, UnknownLabel, UnknownName

SORTS = ("plan", "way", "tickets", "passages")
LISTS = ("tickets", "passages")


class World:
    """What is kept: for each name a tuple (sort, thing), lists as tuples; and what is noted: for each label a note."""

    def __init__(self, kept, noted):
        self.kept = kept
        self.noted = noted


class Note:
    """A claim as it was noted: its words, the kinds of them, what they tell; and its state in this world."""

    def __init__(self, said, kinds, parts, state):
        self.said = said
        self.kinds = kinds
        self.parts = parts
        self.state = state


def is_kept(world, value):
    """Whether any value is a name of something kept."""
    return isinstance(value, str) and value in world.kept


def check_kept(world, value):
    """Raise UnknownName unless it is a name of something kept."""
    if not is_kept(world, value):
        raise UnknownName(value)


def check_noted(world, value):
    """Raise UnknownLabel unless it is a label."""
    if not isinstance(value, str) or value not in world.noted:
        raise UnknownLabel(value)


def thing_of(world, name):
    """What is kept under the name: a tuple, or a new list."""
    sort, thing = world.kept[name]
    return list(thing) if sort in LISTS else thing


def check_command(world, command):
    """Raise the error of the first name or label of the command that is not as it must be."""
    rows = list(zip(command.kinds, command.parts))
    for kind, part in rows:
        if kind == "NEW" and part in world.kept:
            raise NameTaken(part)
        if kind == "LABEL" and part in world.noted:
            raise LabelTaken(part)
    for kind, part in rows:
        if not is_of_kind(world, kind, part):
            raise UnknownName(part)
    for kind, part in rows:
        if kind == "KNOWN":
            check_noted(world, part)


def is_of_kind(world, kind, part):
    """Whether under a part of a command that names something kept there is something of the wanted kind."""
    if kind == "name":
        return part in world.kept
    if kind == "list":
        return part in world.kept and world.kept[part][0] in LISTS
    return kind not in SORTS or (part in world.kept and world.kept[part][0] == kind)


def claimed_tuple(world, note):
    """The tuple of the noted claim, with what is kept now; None if something of it is not kept."""
    found = []
    for kind, part in zip(note.kinds, note.parts):
        if not is_of_kind(world, kind, part):
            return None
        found.append(thing_of(world, part) if kind in SORTS else part)
    # The word "now" has the notice 0.
    return tuple(found + [0] if note.kinds[-1] == "now" else found)


def claim_now(world, note):
    """The noted claim, None if its tuple is none now."""
    claim = claimed_tuple(world, note)
    return claim if claim is not None and is_claim(claim) else None


def state_now(world, note):
    """The state of the noted claim."""
    claim = claim_now(world, note)
    if claim is None:
        return "gone"
    try:
        return "true" if is_true_of(claim) else "false"
    except TooMany:
        return "gone"


def renewed(world, note):
    """The note with its state in this world."""
    return Note(note.said, note.kinds, note.parts, state_now(world, note))


def with_thing(world, name, thing):
    """The world with this tuple (sort, thing) under the name, or with nothing under it; None stands for nothing."""
    kept = dict(world.kept)
    if thing is None:
        del kept[name]
    else:
        kept[name] = thing
    bare = World(kept, world.noted)
    notes = list(world.noted.items())
    return World(kept, {label: renewed(bare, note) if does_name(note, name) else note for label, note in notes})


def does_name(note, name):
    """Whether the claim tells of what is kept under the name."""
    return name in [part for kind, part in zip(note.kinds, note.parts) if kind in SORTS]


def with_note(world, label, note):
    """The world with this note under the label, or with none; None stands for none."""
    noted = dict(world.noted)
    if note is None:
        del noted[label]
    else:
        noted[label] = renewed(world, note)
    return World(world.kept, noted)


def states_told(world, labels):
    """The states of these labels as an answer tells them."""
    return ", ".join([f"{label} {world.noted[label].state}" for label in labels]) if labels else "-"


def changes_told(before, world):
    """The states that are other ones than before, as the answer to a deed tells them."""
    known = {label: note.state for label, note in before.noted.items()}
    states = [(label, world.noted[label].state) for label in sorted(world.noted)]
    return states_told(world, [label for label, state in states if known.get(label, "") != state])
