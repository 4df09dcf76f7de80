"""The errors of the package, each with the attributes that it is made with."""


class ChangeError(ValueError):
    """A value, a text or a change that the package cannot take."""


class InvalidProgram(ChangeError):
    def __init__(self, value):
        self.value = value


class InvalidExpr(ChangeError):
    def __init__(self, value):
        self.value = value


class InvalidPattern(ChangeError):
    def __init__(self, value):
        self.value = value


class InvalidType(ChangeError):
    def __init__(self, value):
        self.value = value


class InvalidText(ChangeError):
    def __init__(self, value):
        self.value = value


class InvalidName(ChangeError):
    def __init__(self, value):
        self.value = value


class InvalidWhole(ChangeError):
    def __init__(self, value):
        self.value = value


class InvalidInputs(ChangeError):
    def __init__(self, value):
        self.value = value


class InvalidTicks(ChangeError):
    def __init__(self, value):
        self.value = value


class InvalidMany(ChangeError):
    def __init__(self, value):
        self.value = value


class InvalidPlace(ChangeError):
    def __init__(self, value):
        self.value = value


class InvalidSorts(ChangeError):
    def __init__(self, value):
        self.value = value


class InvalidStraight(ChangeError):
    def __init__(self, value):
        self.value = value


class InvalidChange(ChangeError):
    def __init__(self, value):
        self.value = value


class InvalidPaper(ChangeError):
    def __init__(self, value):
        self.value = value


class BadStep(ChangeError):
    def __init__(self, position):
        self.position = position


class BadText(ChangeError):
    def __init__(self, position):
        self.position = position


class InvalidAnswers(ChangeError):
    def __init__(self, value):
        self.value = value


class InvalidAtom(ChangeError):
    def __init__(self, value):
        self.value = value


class InvalidBinder(ChangeError):
    def __init__(self, value):
        self.value = value


class InvalidBits(ChangeError):
    def __init__(self, value):
        self.value = value


class InvalidCell(ChangeError):
    def __init__(self, value):
        self.value = value


class InvalidChanges(ChangeError):
    def __init__(self, value):
        self.value = value


class InvalidCommand(ChangeError):
    def __init__(self, value):
        self.value = value


class InvalidConstructor(ChangeError):
    def __init__(self, value):
        self.value = value


class InvalidDeeds(ChangeError):
    def __init__(self, position):
        self.position = position


class InvalidField(ChangeError):
    def __init__(self, value):
        self.value = value


class InvalidFields(ChangeError):
    def __init__(self, value):
        self.value = value


class InvalidForm(ChangeError):
    def __init__(self, value):
        self.value = value


class InvalidLayout(ChangeError):
    def __init__(self, value):
        self.value = value


class InvalidLoose(ChangeError):
    def __init__(self, value):
        self.value = value


class InvalidNumber(ChangeError):
    def __init__(self, value):
        self.value = value


class InvalidPartition(ChangeError):
    def __init__(self, value):
        self.value = value


class InvalidPath(ChangeError):
    def __init__(self, value):
        self.value = value


class InvalidPatterns(ChangeError):
    def __init__(self, value):
        self.value = value


class InvalidReplacement(ChangeError):
    def __init__(self, value):
        self.value = value


class InvalidRoots(ChangeError):
    def __init__(self, value):
        self.value = value


class InvalidRule(ChangeError):
    def __init__(self, value):
        self.value = value


class InvalidScheme(ChangeError):
    def __init__(self, value):
        self.value = value


class InvalidSort(ChangeError):
    def __init__(self, value):
        self.value = value


class InvalidSpot(ChangeError):
    def __init__(self, value):
        self.value = value


class InvalidStill(ChangeError):
    def __init__(self, value):
        self.value = value


class InvalidStore(ChangeError):
    def __init__(self, value):
        self.value = value


class InvalidTree(ChangeError):
    def __init__(self, value):
        self.value = value


class InvalidUse(ChangeError):
    def __init__(self, value):
        self.value = value


class InvalidValue(ChangeError):
    def __init__(self, value):
        self.value = value


class InvalidValues(ChangeError):
    def __init__(self, value):
        self.value = value


class Twice(ChangeError):
    def __init__(self, name):
        self.name = name


class WrongArgument(ChangeError):
    def __init__(self, name):
        self.name = name


class MissingError(LookupError):
    """A name for which nothing is there."""


class NotBound(MissingError):
    def __init__(self, name):
        self.name = name


class NotShown(MissingError):
    def __init__(self, name):
        self.name = name


class UnknownName(MissingError):
    def __init__(self, value):
        self.value = value


class StateError(RuntimeError):
    """A call that does not fit what there is now."""


class NotAccepted(StateError):
    """A program that is not accepted."""


class Clash(StateError):
    def __init__(self, position):
        self.position = position


class CommandFailed(StateError):
    def __init__(self, position):
        self.position = position


class NameTaken(StateError):
    def __init__(self, name):
        self.name = name


class NotThere(StateError):
    """A tree that comes to what the value does not have."""


class NothingToRedo(StateError):
    """Nothing that was taken back is left."""


class NothingToUndo(StateError):
    """Nothing that was done is left."""


class Refused(StateError):
    def __init__(self, reason):
        self.reason = reason


class UnlikeBegins(StateError):
    """Two works that were begun with unlike programs."""


class LimitError(ArithmeticError):
    """More than the package goes through."""


class TooMany(LimitError):
    def __init__(self, what, limit):
        self.what = what
        self.limit = limit
