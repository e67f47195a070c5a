"""The desk: things under names, claims under labels, deeds that can be taken back, and papers of the claims."""

from citylines.answers import answered
from citylines.basics import plain
from citylines.claims import contrary_of, is_paper_of
from citylines.commands import command_of, is_deed
from citylines.deeds import world_after
from citylines.errors import CityError, CommandFailed, InvalidCommand, InvalidDeeds, InvalidPaper, LimitError
from citylines.errors import MissingError, NothingToRedo, NothingToUndo, StateError, TooMany
from citylines.worlds import changes_told, check_command, check_kept, check_noted, claim_now, is_kept, thing_of, World

MOST_DEEDS = 200


class Life:
    """All of a desk at one time, never changed: its world, the deeds done and taken back, the papers of labels.

    The deeds are tuples: of one that is done its line and the world ahead of it, of one that is taken back its line and
    the world behind it. A paper is told with the claim in its words, and the word of what it is a paper of.
    """

    def __init__(self, world, done, undone, papers):
        self.world = world
        self.done = done
        self.undone = undone
        self.papers = papers


def life_undone(life):
    """The life with the last deed taken back."""
    if len(life.done) == 0:
        raise NothingToUndo()
    line, before = life.done[-1]
    return Life(before, life.done[:-1], life.undone + ((line, life.world),), life.papers)


def life_redone(life):
    """The life with the deed done again that was taken back last."""
    if len(life.undone) == 0:
        raise NothingToRedo()
    line, behind = life.undone[-1]
    return Life(behind, life.done + ((line, life.world),), life.undone[:-1], life.papers)


def life_after(life, command):
    """The life with one deed more."""
    world = world_after(life.world, command)
    if len(life.done) == MOST_DEEDS:
        raise TooMany("deeds", MOST_DEEDS)
    return Life(world, life.done + ((command.line, life.world),), (), life.papers)


def is_paper_now(claim, paper):
    """Whether any value is a paper of the claim; where it would take too many steps it is none."""
    try:
        return is_paper_of(claim, paper)
    except TooMany:
        return False


class Desk:
    """A desk on which plans, ways, tickets and passages are kept, and claims are noted."""

    def __init__(self):
        self.life = Life(World({}, {}), (), (), {})

    @property
    def names(self):
        """The sorted list of the names."""
        return sorted(self.life.world.kept)

    @property
    def labels(self):
        """The sorted list of the labels."""
        return sorted(self.life.world.noted)

    def __len__(self):
        """How many deeds can be taken back."""
        return len(self.life.done)

    def __getitem__(self, at):
        """What is kept under the name."""
        check_kept(self.life.world, at)
        return thing_of(self.life.world, at)

    def __contains__(self, x):
        """Whether any value is a name of something kept."""
        return is_kept(self.life.world, x)

    def __iter__(self):
        raise TypeError("a desk is not iterated over")

    def __call__(self, command):
        """The answer to the command."""
        return self.do(command)

    def claim_of(self, label):
        """The claim of the label, None if its tuple is none now."""
        check_noted(self.life.world, label)
        return claim_now(self.life.world, self.life.world.noted[label])

    def do(self, command):
        """The answer to the command."""
        own = command_of(command)
        if own is None:
            raise InvalidCommand(command)
        before = self.life
        check_command(before.world, own)
        if own.word == "undo":
            self.life = life_undone(before)
            return self.life.undone[-1][0]
        if own.word == "redo":
            self.life = life_redone(before)
            return self.life.done[-1][0]
        if not own.does:
            return answered(before.world, own)
        self.life = life_after(before, own)
        return changes_told(before.world, self.life.world)

    def do_all(self, *commands):
        """The list of the answers to all commands; if one fails, none has an effect."""
        before = self.life
        answers = []
        for position, command in enumerate(commands):
            try:
                answers.append(self.do(command))
            except (CityError, MissingError, StateError, LimitError) as e:
                self.life = before
                raise CommandFailed(position) from e
        return answers

    def attempt(self, *commands):
        """The list of the answers to all commands, of which none has an effect."""
        before = self.life
        answers = self.do_all(*commands)
        self.life = before
        return answers

    def attach(self, label, paper):
        """Keep with the label a paper of its claim, or of the contrary."""
        world = self.life.world
        check_noted(world, label)
        note = world.noted[label]
        if note.state == "gone":
            raise InvalidPaper(paper)
        # Only what is true has a paper.
        claim = claim_now(world, note)
        own = claim if note.state == "true" else contrary_of(claim)
        if not is_paper_now(own, paper):
            raise InvalidPaper(paper)
        papers = dict(self.life.papers)
        papers[label] = (note.said, own[0], plain(paper))
        self.life = Life(world, self.life.done, self.life.undone, papers)

    def fits(self, label):
        """Whether the paper that is kept with the label is still one of what it was kept for."""
        world = self.life.world
        check_noted(world, label)
        note = world.noted[label]
        said, word, paper = self.life.papers.get(label, ("", "", None))
        if note.state == "gone" or said != note.said:
            return False
        return is_paper_now((word,) + claim_now(world, note)[1:], paper)

    def lines(self):
        """The list of the lines of the deeds that are not taken back."""
        return [line for line, _ in self.life.done]

    def copy(self):
        """A desk that goes on by itself, with all of this one."""
        other = Desk()
        # Lives are never changed, so both may have the same one.
        other.life = self.life
        return other

    @classmethod
    def again(cls, lines):
        """A desk that has done these deeds."""
        if not isinstance(lines, (list, tuple)):
            raise InvalidDeeds(None)
        for position, line in enumerate(lines):
            if not is_deed(line):
                raise InvalidDeeds(position)
        desk = cls()
        desk.do_all(*lines)
        return desk


class Trial:
    """A block behind which all of the desk is as it was when the block began."""

    def __init__(self, desk):
        self.desk = desk
        self.life = desk.life

    def __enter__(self):
        self.life = self.desk.life
        return self.desk

    def __exit__(self, kind, value, trace):
        desk = self.desk
        desk.life = self.life


def tried(desk, action):
    """What the action returns when it is called with the desk, behind which all is as it was."""
    with Trial(desk) as held:
        return action(held)
