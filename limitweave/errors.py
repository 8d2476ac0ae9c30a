"""The errors that the program raises."""


class LimitError(ValueError):
    """The base class of all errors of the program."""


class InvalidName(LimitError):
    """Something is no name."""


class InvalidRequest(LimitError):
    """Something is no request, or no moment."""


class InvalidLimit(LimitError):
    """Something is no limit."""


class InvalidBook(LimitError):
    """Some limits make no book."""


class NoView(LimitError):
    """Some houses make no view."""


class InvalidPaper(LimitError):
    """There is no paper for a request."""


class InvalidJournal(LimitError):
    """Something is no journal, or would make one wrong."""


class TooLarge(LimitError):
    """Something would have more parts than the document allows."""


class NothingToUndo(LimitError):
    """There is no change that could be taken back."""


class NothingToRedo(LimitError):
    """There is no change that could be restored."""


class UnknownName(LimitError):
    """No limit has the name."""

    def __init__(self, name):
        super().__init__(f"no limit has the name {name}")
        self.name = name


class NameTaken(LimitError):
    """A house has the name already."""

    def __init__(self, name):
        super().__init__(f"the name {name} is taken")
        self.name = name


class KeyKnown(LimitError):
    """The key was asked before."""

    def __init__(self, key):
        super().__init__(f"the key {key} was asked before")
        self.key = key


class UnknownKey(LimitError):
    """The key was not asked."""

    def __init__(self, key):
        super().__init__(f"the key {key} is not known")
        self.key = key


class EarlierMoment(LimitError):
    """A moment is less than the last one, which the attribute tells."""

    def __init__(self, moment):
        super().__init__(f"the moment is less than {moment}")
        self.moment = moment


class InvalidNotation(LimitError):
    """The line with this number, counted from 1, is wrong."""

    def __init__(self, line):
        super().__init__(f"line {line} is wrong")
        self.line = line


class InvalidEntry(LimitError):
    """The entry with this number, counted from 0, is wrong."""

    def __init__(self, number):
        super().__init__(f"entry {number} is wrong")
        self.number = number


class UnknownLetter(LimitError):
    """No letter on its way has the number."""

    def __init__(self, number):
        super().__init__(f"no letter on its way has the number {number}")
        self.number = number


class HouseFallen(LimitError):
    """The house has fallen."""

    def __init__(self, house):
        super().__init__(f"the house {house} has fallen")
        self.house = house


class UnknownHouse(LimitError):
    """There is no such house."""

    def __init__(self, house):
        super().__init__(f"there is no house {house}")
        self.house = house
