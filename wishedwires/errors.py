"""The errors of the package; each but WireError keeps its one argument in the field `given`."""


class WireError(ValueError):
    """The base of the errors about wrong values."""


class InvalidBlock(WireError):
    """A block that its book can't take."""

    def __init__(self, given):
        self.given = given


class InvalidCircuit(WireError):
    """No circuit, or no part of one, where one must stand."""

    def __init__(self, given):
        self.given = given


class InvalidCommand(WireError):
    """A line that is no command of the desk."""

    def __init__(self, given):
        self.given = given


class InvalidEdit(WireError):
    """A value that is no edit."""

    def __init__(self, given):
        self.given = given


class InvalidForm(WireError):
    """No form, item or expression, or one that does not fit."""

    def __init__(self, given):
        self.given = given


class InvalidKind(WireError):
    """No kind, or wrong pins, groups or rules of one."""

    def __init__(self, given):
        self.given = given


class InvalidMatching(WireError):
    """No matching, or one that does not fit."""

    def __init__(self, given):
        self.given = given


class InvalidMend(WireError):
    """A deed that can't be done on a board."""

    def __init__(self, given):
        self.given = given


class InvalidName(WireError):
    """A value that is no name, or no single word where one is wanted."""

    def __init__(self, given):
        self.given = given


class InvalidNumber(WireError):
    """A value that is no number, or none that is allowed."""

    def __init__(self, given):
        self.given = given


class InvalidPaper(WireError):
    """A value of which no paper can speak."""

    def __init__(self, given):
        self.given = given


class InvalidPins(WireError):
    """Nets that do not fit the pins."""

    def __init__(self, given):
        self.given = given


class InvalidPrices(WireError):
    """A price that is too low, or the name of none."""

    def __init__(self, given):
        self.given = given


class InvalidStep(WireError):
    """A step that a reduction can't do."""

    def __init__(self, given):
        self.given = given


class InvalidText(WireError):
    """A text with a wrong line."""

    def __init__(self, given):
        self.given = given


class InvalidWay(WireError):
    """No way from an item to another one."""

    def __init__(self, given):
        self.given = given


class NotPositive(WireError):
    """A value that is no ratio or integer above 0."""

    def __init__(self, given):
        self.given = given


class PortsDiffer(WireError):
    """Ports that are not the same."""

    def __init__(self, given):
        self.given = given


class LimitExceeded(OverflowError):
    """A number above a limit that the document sets."""

    def __init__(self, given):
        self.given = given


class NameInUse(KeyError):
    """A name that is taken already."""

    def __init__(self, given):
        self.given = given


class UnknownName(KeyError):
    """A name that nothing has."""

    def __init__(self, given):
        self.given = given


class NothingToUndo(LookupError):
    """A number of changes that can't be taken back."""

    def __init__(self, given):
        self.given = given


class NoDivision(ZeroDivisionError):
    """A division by 0."""

    def __init__(self, given):
        self.given = given


class RunFailed(RuntimeError):
    """An edit of a run that could not be done."""

    def __init__(self, given):
        self.given = given
