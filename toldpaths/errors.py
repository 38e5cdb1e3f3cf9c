"""The errors of the package: PathError and its direct subclasses."""


class PathError(ValueError):
    """What all errors of this package are."""

    def __init__(self):
        ValueError.__init__(self)


class BadManner(PathError):
    """No manner of links."""

    def __init__(self, manner):
        self.manner = manner


class BadPath(PathError):
    """No path, or none that can stand here."""

    def __init__(self, path):
        self.path = path


class BadPlace(PathError):
    """No place of the path."""

    def __init__(self, place):
        self.place = place


class BadMany(PathError):
    """No number of things of a store."""

    def __init__(self, many):
        self.many = many


class BadLink(PathError):
    """A letter whose link is wrong, or what is no dict of links."""

    def __init__(self, letter):
        self.letter = letter


class BadKind(PathError):
    """A digit whose things are wrong, or what is no dict of kinds."""

    def __init__(self, kind):
        self.kind = kind


class BadText(PathError):
    """The number of a line that cannot stand where it stands."""

    def __init__(self, line):
        self.line = line


class BadKept(PathError):
    """The index of what is no path to be kept."""

    def __init__(self, index):
        self.index = index


class BadIndex(PathError):
    """No index, or one that cannot stand here."""

    def __init__(self, index):
        self.index = index


class BadPlan(PathError):
    """No plan for the path."""

    def __init__(self, plan):
        self.plan = plan


class BadAnswers(PathError):
    """The index of what is no answer of a kept path."""

    def __init__(self, index):
        self.index = index


class BadBook(PathError):
    """No book, or none that can stand here."""

    def __init__(self, book):
        self.book = book


class BadMachine(PathError):
    """No machine."""

    def __init__(self, machine):
        self.machine = machine


class BadNumber(PathError):
    """No integer from 0 on."""

    def __init__(self, number):
        self.number = number


class FullDesk(PathError):
    """There is no room for one more."""


class BadReading(PathError):
    """No reading of links."""

    def __init__(self, reading):
        self.reading = reading


class IsTold(PathError):
    """A path that is told, though it should not be."""

    def __init__(self, path):
        self.path = path


class BadLetter(PathError):
    """No letter, or no letters that can stand here."""

    def __init__(self, letter):
        self.letter = letter


class BadGroup(PathError):
    """No group."""

    def __init__(self, group):
        self.group = group


class BadFact(PathError):
    """The index of what is no fact."""

    def __init__(self, index):
        self.index = index


class HasStore(PathError):
    """There is a store, so there is no clash."""


class NoStore(PathError):
    """There is no store with these facts."""


class BadThing(PathError):
    """No thing, or none that can stand here."""

    def __init__(self, thing):
        self.thing = thing


class BadMoment(PathError):
    """No moment of the log."""

    def __init__(self, moment):
        self.moment = moment


class BadHand(PathError):
    """The index of what is no hand."""

    def __init__(self, index):
        self.index = index


class BadPiece(PathError):
    """The index of what is no piece."""

    def __init__(self, index):
        self.index = index
