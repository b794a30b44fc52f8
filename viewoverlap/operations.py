"""The operations 0 to 9, each one giving back the numbers of its answer.

Their parameters behind the store are those of the document's signatures.
"""

from viewoverlap.certificates import is_one_certificate
from viewoverlap.certificates import is_valid
from viewoverlap.certificates import search
from viewoverlap.certificates import separated
from viewoverlap.equations import Equation
from viewoverlap.equations import repetition_axes
from viewoverlap.equations import repetition_equation
from viewoverlap.equations import represented_differences
from viewoverlap.equations import shared_equation
from viewoverlap.limits import AXIS_LIMIT
from viewoverlap.limits import BOX_LIMIT
from viewoverlap.limits import GREATEST
from viewoverlap.limits import VARIABLE_LIMIT
from viewoverlap.refusals import ArrayLengthOutOfRange
from viewoverlap.refusals import AxisLengthOutOfRange
from viewoverlap.refusals import CellOutsideArray
from viewoverlap.refusals import NotAnIndex
from viewoverlap.refusals import NotAxes
from viewoverlap.refusals import NotOneCertificate
from viewoverlap.refusals import NotVariables
from viewoverlap.refusals import VariableOutOfRange
from viewoverlap.refusals import ViewTooLarge
from viewoverlap.views import View
from viewoverlap.views import cell_of
from viewoverlap.views import is_index
from viewoverlap.views import lies_within


def set_length(store, n):
    """Set the length of the array, and every register to the whole view."""
    if not 0 <= n <= GREATEST:
        raise ArrayLengthOutOfRange()
    store.resize(n)
    return [n]


def set_view(store, r, offset, axes):
    """Store a view in a register and answer its size."""
    store.require(r)
    view = view_from(offset, axes)
    if not lies_within(view, store.array_length):
        raise CellOutsideArray()
    store.put_view(r, view)
    return [view.size]


def get_view(store, p):
    """Answer the offset of a view and its axes."""
    view = store.view_in(p)
    axes = []
    for length, stride in zip(view.lengths, view.strides):
        axes.extend([length, stride])
    return [view.offset] + counted(axes)


def cell_at(store, p, index):
    """Answer the cell at an index of a view."""
    view = store.view_in(p)
    if not is_index(view, index):
        raise NotAnIndex()
    return [cell_of(view, index)]


def solve(target, variables):
    """Answer the least solution of an equation, or a certificate."""
    solution, certificate = search(equation_from(target, variables), BOX_LIMIT)
    if solution is None:
        return [0] + counted(certificate)
    return [1] + counted(solution)


def check_certificate(target, variables, certificate):
    """Answer whether a certificate is valid for an equation."""
    return validity(equation_from(target, variables), certificate)


def find_shared(store, p, q):
    """Answer the least pair of indices with the same cell, or a certificate."""
    left = store.view_in(p)
    right = store.view_in(q)
    solution, certificate = search(shared_equation(left, right), BOX_LIMIT)
    if solution is None:
        return [0] + counted(certificate)
    axis_count = len(left.lengths)
    return [1] + counted(solution[:axis_count]) + counted(solution[axis_count:])


def prove_disjoint(store, p, q, certificate):
    """Answer whether a certificate shows that two views share no cell."""
    left = store.view_in(p)
    right = store.view_in(q)
    return validity(shared_equation(left, right), certificate)


def find_repetition(store, p):
    """Answer two different indices with the same cell, or certificates."""
    view = store.view_in(p)
    certificates = []
    for axis in repetition_axes(view):
        # Without a solution a search gives one claim for each box that it examined.
        boxes_left = BOX_LIMIT - len(certificates)
        solution, claims = search(repetition_equation(view, axis), boxes_left)
        if solution is not None:
            differences = represented_differences(view, axis, solution)
            first = [max(0, -difference) for difference in differences]
            second = [max(0, difference) for difference in differences]
            return [1] + counted(first) + counted(second)
        certificates.extend(claims)
    return [0] + counted(certificates)


def prove_distinct(store, p, certificates):
    """Answer whether certificates show that no cell occurs twice in a view."""
    view = store.view_in(p)
    axes = repetition_axes(view)
    parts = separated(certificates)
    if parts is None or len(parts) != len(axes):
        return [0]
    valid = all([is_valid(repetition_equation(view, axis), part) for axis, part in zip(axes, parts)])
    return [1 if valid else 0]


def view_from(offset, axes):
    """Return the view of a list of axes, or refuse the list."""
    if not is_pairs(axes, AXIS_LIMIT):
        raise NotAxes()
    lengths = axes[0::2]
    if not all([0 <= length <= GREATEST for length in lengths]):
        raise AxisLengthOutOfRange()
    view = View(offset, lengths, axes[1::2])
    if view.size > GREATEST:
        raise ViewTooLarge()
    return view


def equation_from(target, variables):
    """Return the equation of a list of variables, or refuse the list."""
    if not is_pairs(variables, VARIABLE_LIMIT):
        raise NotVariables()
    coefficients = variables[0::2]
    uppers = variables[1::2]
    if not all([abs(coefficient) <= GREATEST for coefficient in coefficients]):
        raise VariableOutOfRange()
    if not all([0 <= upper <= GREATEST for upper in uppers]):
        raise VariableOutOfRange()
    return Equation(target, coefficients, uppers)


def is_pairs(row, limit):
    """Tell whether the row consists of pairs, and of no more than the limit."""
    return len(row) % 2 == 0 and len(row) <= 2 * limit


def validity(equation, certificate):
    """Answer whether a list that must be one certificate is valid for the equation."""
    if not is_one_certificate(certificate):
        raise NotOneCertificate()
    return [1 if is_valid(equation, certificate) else 0]


def counted(row):
    """Return the row behind its length, as lists stand in an answer."""
    return [len(row)] + row
