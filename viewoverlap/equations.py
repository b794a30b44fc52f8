"""Equations with bounded variables, and those of shared and of repeated cells."""

from viewoverlap.arithmetic import common_divisor
from viewoverlap.arithmetic import inverse_for


class Equation:
    """An equation whose variables have the lower bound 0, made ready for a search.

    A variable that is not free at the start never is. It adds nothing to a
    sum, since its lower bound and so its value is 0, or its coefficient is.
    So the lists hold the free variables only, in their order.
    """

    def __init__(self, target, coefficients, uppers):
        self.target = target
        self.width = len(coefficients)
        self.lacks_values = any([upper < 0 for upper in uppers])
        self.places = free_places(coefficients, uppers)
        # A last entry that adds nothing stands for the first free variable
        # of a box that has none, so that such a box needs no case of its own.
        self.coefficients = [coefficients[place] for place in self.places] + [0]
        self.uppers = [uppers[place] for place in self.places] + [0]
        spans = [coefficient * upper for coefficient, upper in zip(self.coefficients, self.uppers)]
        self.least_tails = tail_sums([min(0, span) for span in spans])
        self.greatest_tails = tail_sums([max(0, span) for span in spans])
        self.divisors = [common_divisor(self.coefficients[first:]) for first in range(len(spans))]
        self.pair_modulus = 0
        self.pair_inverse = 0
        if len(self.places) >= 2:
            self.prepare_pair()

    def prepare_pair(self):
        """Keep what every two-variable test of this equation needs.

        Bisection takes the free variables in their order, so the two that
        are left in the end are always the last two.
        """
        first = len(self.places) - 2
        divisor = self.divisors[first]
        self.pair_modulus = abs(self.coefficients[first + 1]) // divisor
        self.pair_inverse = inverse_for(self.coefficients[first] // divisor, self.pair_modulus)

    def full_solution(self, free_values):
        """Return the values of all variables for those of the free ones."""
        solution = [0] * self.width
        for place, number in zip(self.places, free_values):
            solution[place] = number
        return solution


def free_places(coefficients, uppers):
    """Return the places of the variables that are free at the start."""
    return [place for place in range(len(uppers)) if coefficients[place] != 0 and uppers[place] > 0]


def tail_sums(terms):
    """Return for each place, and for the end, the sum of the terms from there on."""
    return [sum(terms[place:]) for place in range(len(terms) + 1)]


def shared_equation(left, right):
    """Return the equation of shared cells of two views."""
    coefficients = left.strides + [-stride for stride in right.strides]
    uppers = [length - 1 for length in left.lengths + right.lengths]
    return Equation(right.offset - left.offset, coefficients, uppers)


def repetition_axes(view):
    """Return the axes that equations of repeated cells start from, the last one first."""
    if view.size == 0:
        return []
    return [axis for axis in range(len(view.lengths) - 1, -1, -1) if view.lengths[axis] >= 2]


def repetition_equation(view, axis):
    """Return the equation of repeated cells of a view from an axis on."""
    reaches = [length - 1 for length in view.lengths[axis + 1:]]
    uppers = [view.lengths[axis] - 2] + [2 * reach for reach in reaches]
    shift = sum([stride * reach for stride, reach in zip(view.strides[axis + 1:], reaches)])
    return Equation(shift - view.strides[axis], view.strides[axis:], uppers)


def represented_differences(view, axis, solution):
    """Return for each axis how far apart the two indices are that a solution tells."""
    later = [number - length + 1 for number, length in zip(solution[1:], view.lengths[axis + 1:])]
    return [0] * axis + [solution[0] + 1] + later
