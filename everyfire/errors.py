"""The errors of the program: one class for each kind of failure."""


class EveryfireError(ValueError):
    """The base class of all errors that the program raises."""


class InvalidLand(EveryfireError):
    """A land breaks a rule of lands."""


class InvalidWeather(EveryfireError):
    """A weather breaks a rule of weathers."""


class InvalidQuestion(EveryfireError):
    """What is asked breaks a rule of its question."""


class NothingToUndo(EveryfireError):
    """There is no change to take back."""


class NothingToRedo(EveryfireError):
    """There is no change to make again."""


class NoCut(EveryfireError):
    """No cut keeps the goals: on some way no place may be broken."""


class UnknownName(EveryfireError):
    """Nothing of the sort that is asked for has the name `name`."""

    def __init__(self, name):
        super().__init__(f"unknown name: {name}")
        self.name = name


class InvalidPlan(EveryfireError):
    """The hand with the number `number` walks where there is no path."""

    def __init__(self, number):
        super().__init__(f"no path for hand: {number}")
        self.number = number


class InvalidNotation(EveryfireError):
    """The line with the number `line` cannot stand where it stands."""

    def __init__(self, line):
        super().__init__(f"invalid notation in line: {line}")
        self.line = line


class InvalidPaper(EveryfireError):
    """The line with the number `line` of a paper cannot stand where it stands."""

    def __init__(self, line):
        super().__init__(f"invalid paper in line: {line}")
        self.line = line


class NameInUse(EveryfireError):
    """The name `name` is in use."""

    def __init__(self, name):
        super().__init__(f"name in use: {name}")
        self.name = name
