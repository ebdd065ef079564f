"""The errors of the package, each with what is wrong as its attributes."""


class FadeError(ValueError):
    """A value that is not valid."""


class InvalidNumber(FadeError):
    """The value is no NUMBER, or no INTEGER where one is asked for."""

    def __init__(self, value):
        self.value = value


class InvalidName(FadeError):
    """The value is no NAME."""

    def __init__(self, value):
        self.value = value


class InvalidCut(FadeError):
    """The value is no cut."""

    def __init__(self, value):
        self.value = value


class InvalidStretch(FadeError):
    """The value is no stretch."""

    def __init__(self, value):
        self.value = value


class InvalidRange(FadeError):
    """The value is no Range, or a pair of numbers of which no Range can be made."""

    def __init__(self, value):
        self.value = value


class InvalidMove(FadeError):
    """The part of a move with this name is not valid."""

    def __init__(self, part):
        self.part = part


class InvalidRule(FadeError):
    """The part of a rule with this name is not valid, at a position or key, or as a whole."""

    def __init__(self, part, position):
        self.part = part
        self.position = position


class InvalidLevels(FadeError):
    """The levels of a program are not valid, at a key or as a whole."""

    def __init__(self, key):
        self.key = key


class InvalidModes(FadeError):
    """The modes of a program are not valid, at a key or as a whole."""

    def __init__(self, key):
        self.key = key


class InvalidRules(FadeError):
    """A list of rules is not valid, at a position or as a whole."""

    def __init__(self, mode, letter, position):
        self.mode = mode
        self.letter = letter
        self.position = position


class InvalidPlace(FadeError):
    """The value is no place of a rule of the program."""

    def __init__(self, value):
        self.value = value


class InvalidPosition(FadeError):
    """The value is no position where one is asked for."""

    def __init__(self, value):
        self.value = value


class InvalidState(FadeError):
    """The value is no state of the program."""

    def __init__(self, value):
        self.value = value


class InvalidHistory(FadeError):
    """A history is not valid, at a position or as a whole."""

    def __init__(self, position):
        self.position = position


class InvalidStarts(FadeError):
    """Starts are not valid, at a position or as a whole."""

    def __init__(self, position):
        self.position = position


class InvalidCell(FadeError):
    """The value is no cell that is asked for."""

    def __init__(self, value):
        self.value = value


class InvalidRows(FadeError):
    """The rows of a machine are not valid, at a position or as a whole."""

    def __init__(self, position):
        self.position = position


class InvalidCount(FadeError):
    """The value is no count that is asked for."""

    def __init__(self, value):
        self.value = value


class InvalidSide(FadeError):
    """The value is no side of an end."""

    def __init__(self, value):
        self.value = value


class InvalidPaper(FadeError):
    """The value is no paper, or no closed family."""

    def __init__(self, value):
        self.value = value


class InvalidHand(FadeError):
    """The modes of a hand are not valid, at a position or as a whole."""

    def __init__(self, position):
        self.position = position


class InvalidBad(FadeError):
    """A list of answers is not valid, at a position or as a whole."""

    def __init__(self, position):
        self.position = position


class InvalidPrices(FadeError):
    """The value is no dict of prices."""

    def __init__(self, value):
        self.value = value


class InvalidHeard(FadeError):
    """What was heard is not valid, at a position or as a whole."""

    def __init__(self, position):
        self.position = position


class InvalidProgram(FadeError):
    """The value is no Program."""

    def __init__(self, value):
        self.value = value


class InvalidText(FadeError):
    """A text is not valid, at a line or as a whole."""

    def __init__(self, line):
        self.line = line


class InvalidClaim(FadeError):
    """The value is no claim."""

    def __init__(self, value):
        self.value = value


class InvalidCommand(FadeError):
    """The value is no command, or no list of commands."""

    def __init__(self, value):
        self.value = value


class OtherLetters(FadeError):
    """Only one of two programs has this letter."""

    def __init__(self, letter):
        self.letter = letter


class TooMany(FadeError):
    """There are more things of this kind than the limit allows."""

    def __init__(self, kind, limit):
        self.kind = kind
        self.limit = limit


class MissingError(LookupError):
    """A name that is not there."""


class UnknownMode(MissingError):
    """The value is no mode of the program."""

    def __init__(self, value):
        self.value = value


class UnknownLetter(MissingError):
    """The value is no letter of the program."""

    def __init__(self, value):
        self.value = value


class UnknownLevel(MissingError):
    """The value is no level that is asked for."""

    def __init__(self, value):
        self.value = value


class UnknownName(MissingError):
    """The value is no name that is there."""

    def __init__(self, value):
        self.value = value


class StateError(RuntimeError):
    """A call that is not possible as things stand."""


class NameTaken(StateError):
    """The name is there already."""

    def __init__(self, name):
        self.name = name


class NothingToUndo(StateError):
    """There is nothing that can be taken back."""


class DividedByZero(StateError):
    """A number cannot be divided by zero."""
