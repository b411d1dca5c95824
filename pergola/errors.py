"""The errors that the program raises."""


class PergolaError(ValueError):
    """The base class of all errors of the program."""


class NotAllowed(PergolaError):
    """An argument is not of the form that is asked for."""


class TooLarge(PergolaError):
    """Something would go beyond a bound."""


class Missing(PergolaError):
    """Something that is asked for is not there."""


class BadPaper(PergolaError):
    """A paper does not show what it is to show."""


class BadForm(PergolaError):
    """A text is bad, at a line."""

    def __init__(self, line):
        super().__init__(f"bad form at line {line}")
        self.line = line


class Broken(PergolaError):
    """A saying that is kept would not hold."""

    def __init__(self, number):
        super().__init__(f"the saying {number} would not hold")
        self.number = number
