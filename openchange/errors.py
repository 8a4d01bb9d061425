"""The errors of the program, one class for each kind of failure."""

# Values that a caller may have chosen freely stay out of the messages:
# to write out a number of many thousand digits would itself fail.


class ChangeError(ValueError):
    """What all errors of the program have in common."""


class BadPlan(ChangeError):
    """A part of a plan is not as described."""

    def __init__(self, part):
        super().__init__("a part of the plan is not as described")
        self.part = part


class BadLag(ChangeError):
    """A lag is no integer from 1 to 20."""

    def __init__(self, lag):
        super().__init__("the lag is no integer from 1 to 20")
        self.lag = lag


class BadMove(ChangeError):
    """A move cannot be made where it stands."""

    def __init__(self, number):
        super().__init__("a move cannot be made where it stands")
        self.number = number


class BadVersion(ChangeError):
    """A value is no version of a plan."""

    def __init__(self, version):
        super().__init__("the plan has no such version")
        self.version = version


class BadBack(ChangeError):
    """A version is none of a plan, or has no such way back."""

    def __init__(self, version):
        super().__init__("a version has no such way back")
        self.version = version


class BadLean(ChangeError):
    """A part of an index that leans on a column is not as described."""

    def __init__(self, part):
        super().__init__("a part of the leaning is not as described")
        self.part = part


class BadSpare(ChangeError):
    """A plan whose needless duties are asked for is not safe."""

    def __init__(self, told):
        super().__init__("the plan is not safe")
        self.told = told


class TooLarge(ChangeError):
    """A question has more to go through than the program takes."""

    def __init__(self, number):
        super().__init__("there is too much to go through")
        self.number = number
