"""Deeds: the world that comes of a command's deed."""

from citylines.claims import is_claim
from citylines.edits import edited
from citylines.errors import InvalidClaim, TooMany
from citylines.texts import plan_of, way_of
from citylines.worlds import claimed_tuple, Note, with_note, with_thing

MOST_NAMES = 12
MOST_LABELS = 8
MAKING = ("plan", "way", "tickets", "passages", "copy")


def made_thing(world, command):
    """The tuple (sort, thing) of what a deed keeps under a new name."""
    word, parts = command.word, command.parts
    if word == "copy":
        return world.kept[parts[1]]
    if word == "plan":
        return (word, plan_of(parts[1]))
    if word == "way":
        return (word, way_of(world.kept[parts[1]][1], parts[2]))
    return (word, ())


def made_world(world, command):
    """The world with what a deed keeps under a new name."""
    thing = made_thing(world, command)
    if len(world.kept) == MOST_NAMES:
        raise TooMany("names", MOST_NAMES)
    return with_thing(world, command.parts[0], thing)


def claimed_world(world, command):
    """The world with a claim noted under a label."""
    # The words behind the label are told again as they were.
    note = Note(command.line.split(" ", 2)[2], command.kinds[1:], command.parts[1:], "gone")
    claim = claimed_tuple(world, note)
    if not is_claim(claim):
        raise InvalidClaim(claim)
    if len(world.noted) == MOST_LABELS:
        raise TooMany("labels", MOST_LABELS)
    return with_note(world, command.parts[0], note)


def world_after(world, command):
    """The world that comes of the deed of a command of which names and labels are right."""
    word, name = command.word, command.parts[0]
    if word in MAKING:
        return made_world(world, command)
    if word == "claim":
        return claimed_world(world, command)
    if word == "forget":
        return with_note(world, name, None)
    if word == "drop":
        return with_thing(world, name, None)
    sort, thing = world.kept[name]
    return with_thing(world, name, (sort, edited(word, thing, command.parts[1:])))
