"""Strided views in canonical form."""


class View:
    """A view in canonical form, whatever form it is given in."""

    def __init__(self, offset, lengths, strides):
        self.size = product(lengths)
        self.lengths = list(lengths)
        if self.size == 0:
            self.offset = 0
            self.strides = [0 for length in lengths]
        else:
            self.offset = offset
            self.strides = [0 if length == 1 else stride for length, stride in zip(lengths, strides)]


def product(numbers):
    """Return the product of the numbers, 1 for no numbers."""
    result = 1
    for number in numbers:
        result *= number
    return result


def whole_view(array_length):
    """Return the view of all cells of an array."""
    return View(0, [array_length], [1])


def lies_within(view, array_length):
    """Tell whether all cells of the view are cells of the array."""
    if view.size == 0:
        return True
    spans = [stride * (length - 1) for length, stride in zip(view.lengths, view.strides)]
    first = view.offset + sum([min(0, span) for span in spans])
    last = view.offset + sum([max(0, span) for span in spans])
    return 0 <= first and last < array_length


def is_index(view, index):
    """Tell whether the list is an index of the view."""
    if len(index) != len(view.lengths):
        return False
    return all([0 <= position < length for position, length in zip(index, view.lengths)])


def cell_of(view, index):
    """Return the cell at an index of the view."""
    return view.offset + sum([position * stride for position, stride in zip(index, view.strides)])
