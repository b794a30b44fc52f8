"""What one object keeps from call to call."""

from viewoverlap.limits import REGISTER_COUNT
from viewoverlap.refusals import NoSuchRegister
from viewoverlap.views import whole_view


class Store:
    """The length of the array and the views in the registers."""

    def __init__(self):
        self.array_length = 0
        self.views = [whole_view(0)] * REGISTER_COUNT

    def resize(self, array_length):
        """Set the length of the array, and every register to the whole view."""
        self.array_length = array_length
        self.views = [whole_view(array_length)] * REGISTER_COUNT

    def require(self, number):
        """Refuse a number that is not a register."""
        if not 0 <= number < REGISTER_COUNT:
            raise NoSuchRegister()

    def view_in(self, number):
        """Return the view in a register."""
        self.require(number)
        return self.views[number]

    def put_view(self, number, view):
        """Store a view in what is known to be a register."""
        self.views[number] = view
