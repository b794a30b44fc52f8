"""The errors of the operations, one class for each error code."""


class Refusal(Exception):
    """An operation fails; its answer is the code alone."""

    def __init__(self, code):
        self.code = code


class NoSuchRegister(Refusal):
    """A register number is not in the range 0 to 5."""

    def __init__(self):
        Refusal.__init__(self, -10)


class ArrayLengthOutOfRange(Refusal):
    """The length of the array is not in the range 0 to 10^18."""

    def __init__(self):
        Refusal.__init__(self, -11)


class NotAnIndex(Refusal):
    """The list is not an index of the view."""

    def __init__(self):
        Refusal.__init__(self, -12)


class NotAxes(Refusal):
    """The list of axes does not consist of at most 6 pairs."""

    def __init__(self):
        Refusal.__init__(self, -21)


class AxisLengthOutOfRange(Refusal):
    """The length of an axis is not in the range 0 to 10^18."""

    def __init__(self):
        Refusal.__init__(self, -22)


class ViewTooLarge(Refusal):
    """The size of the view exceeds 10^18."""

    def __init__(self):
        Refusal.__init__(self, -23)


class CellOutsideArray(Refusal):
    """A cell of the view is not a cell of the array."""

    def __init__(self):
        Refusal.__init__(self, -24)


class NotVariables(Refusal):
    """The list of variables does not consist of at most 8 pairs."""

    def __init__(self):
        Refusal.__init__(self, -25)


class VariableOutOfRange(Refusal):
    """A coefficient or an upper bound is outside of its range."""

    def __init__(self):
        Refusal.__init__(self, -26)


class SearchLimitExceeded(Refusal):
    """A further box would have to be examined."""

    def __init__(self):
        Refusal.__init__(self, -30)


class TooManyElements(Refusal):
    """A view has more than 400 elements."""

    def __init__(self):
        Refusal.__init__(self, -31)


class NotOneCertificate(Refusal):
    """The list is not exactly one certificate."""

    def __init__(self):
        Refusal.__init__(self, -33)
