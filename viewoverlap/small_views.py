"""The operations 10 to 15, which go through views with few elements one by one.

As everywhere, the elements of a view are told by their numbers, in the
lexicographic order of their indices.
"""

from viewoverlap.limits import ELEMENT_LIMIT
from viewoverlap.refusals import TooManyElements


def elements_with_cell(store, p, x):
    """Answer how many elements have a cell, and their numbers."""
    numbers = numbers_by_cell(listed_cells(store.view_in(p))).get(x, [])
    return [len(numbers)] + numbers


def cell_statistics(store, p):
    """Answer how many cells there are, and the smallest of those that occur most."""
    found = numbers_by_cell(listed_cells(store.view_in(p)))
    most = max([len(numbers) for numbers in found.values()], default=0)
    smallest = min([cell for cell, numbers in found.items() if len(numbers) == most], default=0)
    return [len(found), most, smallest]


def shared_statistics(store, p, q):
    """Answer how many cells two views share, and how many pairs of elements."""
    left, right = two_lists(store, p, q)
    found = numbers_by_cell(left)
    others = numbers_by_cell(right)
    pairs = [len(numbers) * len(others[cell]) for cell, numbers in found.items() if cell in others]
    return [len(pairs), sum(pairs)]


def first_shared_pair(store, p, q):
    """Answer the first element whose cell the other view has, and the first one there."""
    left, right = two_lists(store, p, q)
    others = numbers_by_cell(right)
    for number, cell in enumerate(left):
        if cell in others:
            return [1, number, others[cell][0]]
    return [0]


def first_repeated(store, p):
    """Answer the first element whose cell occurs again, and the next one with it."""
    found = numbers_by_cell(listed_cells(store.view_in(p)))
    # The cells come in the order of their first elements.
    for numbers in found.values():
        if len(numbers) >= 2:
            return [1, numbers[0], numbers[1]]
    return [0]


def is_covered(store, p, q):
    """Answer whether the other view has every cell, or the first element whose cell it lacks."""
    left, right = two_lists(store, p, q)
    others = numbers_by_cell(right)
    for number, cell in enumerate(left):
        if cell not in others:
            return [0, number]
    return [1]


def two_lists(store, p, q):
    """Return the cells of two views, both of which must be in registers first."""
    left = store.view_in(p)
    right = store.view_in(q)
    return listed_cells(left), listed_cells(right)


def listed_cells(view):
    """Return the cell of each element of a view, or refuse a view with too many."""
    if view.size > ELEMENT_LIMIT:
        raise TooManyElements()
    # The other axes of a view without elements may be too long to go through.
    if view.size == 0:
        return []
    cells = [view.offset]
    for length, stride in zip(view.lengths, view.strides):
        longer = []
        for cell in cells:
            longer.extend([cell + position * stride for position in range(length)])
        cells = longer
    return cells


def numbers_by_cell(cells):
    """Return for each cell the numbers of the elements with it, in increasing order."""
    found = {}
    for number, cell in enumerate(cells):
        found.setdefault(cell, []).append(number)
    return found
