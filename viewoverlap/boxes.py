"""Boxes: equations with the bounds that bisections have left."""

from viewoverlap.arithmetic import ceiling_quotient


class Box:
    """An equation with its current bounds.

    Bisection narrows one free variable down to a single value before it
    turns to the next. So a box is told by the values of the free variables
    that are fixed by now, and the bounds of the first one that is not. The
    rest is the target without what the fixed variables add.
    """

    def __init__(self, equation, fixed, lower, upper, rest):
        self.equation = equation
        self.fixed = fixed
        self.lower = lower
        self.upper = upper
        self.rest = rest

    def free_count(self):
        """Return the number of free variables."""
        return len(self.equation.places) - len(self.fixed)

    def fails_range(self):
        """Tell whether the box is infeasible by range."""
        equation = self.equation
        first = len(self.fixed)
        coefficient = equation.coefficients[first]
        low = coefficient * self.lower
        high = coefficient * self.upper
        least = min(low, high) + equation.least_tails[first + 1]
        greatest = max(low, high) + equation.greatest_tails[first + 1]
        return equation.lacks_values or self.rest < least or self.rest > greatest

    def fails_divisibility(self):
        """Tell whether the box is infeasible by divisibility."""
        divisor = self.equation.divisors[len(self.fixed)]
        if divisor == 0:
            return self.rest != 0
        # The lower bound of the first free variable adds a multiple of the divisor.
        return self.rest % divisor != 0

    def fails_pair(self):
        """Tell whether the box is infeasible by the two-variable test."""
        return self.free_count() == 2 and not self.fails_divisibility() and least_pair(self) is None

    def halves(self):
        """Return the left and the right half of a box with a free variable."""
        middle = (self.lower + self.upper) // 2
        return narrowed(self, self.lower, middle), narrowed(self, middle + 1, self.upper)


def whole_box(equation):
    """Return the box of an equation before any bisection."""
    return box_after(equation, (), equation.target)


def box_after(equation, fixed, rest):
    """Return the box in which the fixed variables are narrowed and no others."""
    return Box(equation, fixed, 0, equation.uppers[len(fixed)], rest)


def narrowed(box, lower, upper):
    """Return the box with other bounds for its first free variable."""
    if lower < upper:
        return Box(box.equation, box.fixed, lower, upper, box.rest)
    coefficient = box.equation.coefficients[len(box.fixed)]
    return box_after(box.equation, box.fixed + (lower,), box.rest - coefficient * lower)


def least_values(box):
    """Return the least values of the free variables of the equation, or None.

    The box has at most two free variables and is infeasible neither by range
    nor by divisibility. So with fewer than two there always is a solution.
    """
    count = box.free_count()
    if count == 0:
        return list(box.fixed)
    if count == 1:
        return list(box.fixed) + [box.rest // box.equation.coefficients[len(box.fixed)]]
    pair = least_pair(box)
    if pair is None:
        return None
    return list(box.fixed) + pair


def least_pair(box):
    """Return the least values of two free variables, or None.

    The box has exactly two and is not infeasible by divisibility.
    """
    equation = box.equation
    place = len(box.fixed)
    first = equation.coefficients[place]
    second = equation.coefficients[place + 1]
    # What the first variable may add, for the second one to stay in its bounds.
    least = box.rest - equation.greatest_tails[place + 1]
    greatest = box.rest - equation.least_tails[place + 1]
    if first < 0:
        least, greatest = greatest, least
    start = max(box.lower, ceiling_quotient(least, first))
    end = min(box.upper, greatest // first)
    # For the second value to be whole, the first one must leave this remainder.
    modulus = equation.pair_modulus
    remainder = box.rest // equation.divisors[place] * equation.pair_inverse % modulus
    value = start + (remainder - start) % modulus
    if value > end:
        return None
    return [value, (box.rest - first * value) // second]
