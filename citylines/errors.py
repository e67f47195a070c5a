"""The errors of the program: what is raised, and the values that it tells."""


class CityError(ValueError):
    """A value that is not what was asked for."""


class InvalidCity(CityError):
    def __init__(self, value):
        self.value = value


class InvalidLine(CityError):
    def __init__(self, value):
        self.value = value


class InvalidPlan(CityError):
    def __init__(self, value):
        self.value = value


class InvalidCourse(CityError):
    def __init__(self, value):
        self.value = value


class InvalidRide(CityError):
    def __init__(self, value):
        self.value = value


class InvalidStop(CityError):
    def __init__(self, value):
        self.value = value


class InvalidMinute(CityError):
    def __init__(self, value):
        self.value = value


class InvalidText(CityError):
    def __init__(self, value):
        self.value = value


class InvalidMany(CityError):
    def __init__(self, value):
        self.value = value


class BadText(CityError):
    def __init__(self, line):
        self.line = line


class InvalidAccount(CityError):
    def __init__(self, value):
        self.value = value


class InvalidArrival(CityError):
    def __init__(self, value):
        self.value = value


class InvalidBlock(CityError):
    def __init__(self, value):
        self.value = value


class InvalidClaim(CityError):
    def __init__(self, value):
        self.value = value


class InvalidCommand(CityError):
    def __init__(self, value):
        self.value = value


class InvalidDeeds(CityError):
    def __init__(self, position):
        self.position = position


class InvalidDelay(CityError):
    def __init__(self, value):
        self.value = value


class InvalidDeparture(CityError):
    def __init__(self, value):
        self.value = value


class InvalidDuty(CityError):
    def __init__(self, value):
        self.value = value


class InvalidEvery(CityError):
    def __init__(self, value):
        self.value = value


class InvalidFeed(CityError):
    def __init__(self, value):
        self.value = value


class InvalidFeeds(CityError):
    def __init__(self, value):
        self.value = value


class InvalidHeard(CityError):
    def __init__(self, position):
        self.position = position


class InvalidHop(CityError):
    def __init__(self, value):
        self.value = value


class InvalidLevel(CityError):
    def __init__(self, value):
        self.value = value


class InvalidLines(CityError):
    def __init__(self, value):
        self.value = value


class InvalidMeet(CityError):
    def __init__(self, value):
        self.value = value


class InvalidNotice(CityError):
    def __init__(self, value):
        self.value = value


class InvalidPaper(CityError):
    def __init__(self, value):
        self.value = value


class InvalidPassages(CityError):
    def __init__(self, value):
        self.value = value


class InvalidPlace(CityError):
    def __init__(self, value):
        self.value = value


class InvalidPosition(CityError):
    def __init__(self, value):
        self.value = value


class InvalidRemedy(CityError):
    def __init__(self, value):
        self.value = value


class InvalidSign(CityError):
    def __init__(self, value):
        self.value = value


class InvalidStanding(CityError):
    def __init__(self, value):
        self.value = value


class InvalidTable(CityError):
    def __init__(self, value):
        self.value = value


class InvalidTaps(CityError):
    def __init__(self, value):
        self.value = value


class InvalidTickets(CityError):
    def __init__(self, value):
        self.value = value


class InvalidTimes(CityError):
    def __init__(self, value):
        self.value = value


class InvalidTravels(CityError):
    def __init__(self, value):
        self.value = value


class InvalidTrip(CityError):
    def __init__(self, value):
        self.value = value


class InvalidTrips(CityError):
    def __init__(self, value):
        self.value = value


class InvalidTurn(CityError):
    def __init__(self, value):
        self.value = value


class InvalidWay(CityError):
    def __init__(self, value):
        self.value = value


class InvalidWord(CityError):
    def __init__(self, value):
        self.value = value


class UnsoundPlan(CityError):
    def __init__(self, word):
        self.word = word


class MissingError(LookupError):
    """Something under whose name nothing is kept."""


class UnknownLabel(MissingError):
    def __init__(self, value):
        self.value = value


class UnknownName(MissingError):
    def __init__(self, value):
        self.value = value


class StateError(RuntimeError):
    """Something that cannot be done as things stand."""


class CommandFailed(StateError):
    def __init__(self, position):
        self.position = position


class LabelTaken(StateError):
    def __init__(self, label):
        self.label = label


class Missed(StateError):
    def __init__(self, rider, place):
        self.rider = rider
        self.place = place


class NameTaken(StateError):
    def __init__(self, name):
        self.name = name


class NoSpares(StateError):
    """The plan has no spares."""


class NotCompared(StateError):
    """The two plans have not the same courses."""


class NothingToRedo(StateError):
    """No deed is taken back."""


class NothingToUndo(StateError):
    """No deed is left to be taken back."""


class UnlikeBudgets(StateError):
    """The two plans have not the same budget."""


class UnlikeStops(StateError):
    """The two plans have not as many stops."""


class WithHeard(StateError):
    """Something is heard, or there are remedies."""


class WithSpares(StateError):
    """A plan has spares."""


class LimitError(ArithmeticError):
    """More than there may be."""


class TooMany(LimitError):
    def __init__(self, what, limit):
        self.what = what
        self.limit = limit
