"""The object of the document, in the words of its terms. For small views only."""

from math import prod

from tests import reference
from tests.support import GREATEST


def canonical(offset, axes):
    lengths, strides = axes[0::2], axes[1::2]
    if 0 in lengths:
        return 0, [number for length in lengths for number in (length, 0)]
    pairs = zip(lengths, strides)
    return offset, [number for length, stride in pairs for number in (length, 0 if length == 1 else stride)]


def size(view):
    return prod(view[1][0::2])


def extremes(view):
    """Return the least and the greatest cell of a view that has elements."""
    spans = [(length - 1) * stride for length, stride in zip(view[1][0::2], view[1][1::2])]
    low = view[0] + sum(span for span in spans if span < 0)
    return low, view[0] + sum(span for span in spans if span > 0)


class Model:
    """Answers one call after the other."""

    def __init__(self):
        self.n = 0
        self.views = [canonical(0, [0, 1])] * 6

    def set_length(self, n):
        if not 0 <= n <= GREATEST:
            return [-11]
        self.n = n
        self.views = [canonical(0, [n, 1])] * 6
        return [n]

    def set_view(self, r, offset, axes):
        if not 0 <= r <= 5:
            return [-10]
        if len(axes) % 2 == 1 or len(axes) > 12:
            return [-21]
        if any(not 0 <= length <= GREATEST for length in axes[0::2]):
            return [-22]
        view = canonical(offset, axes)
        if size(view) > GREATEST:
            return [-23]
        if size(view) > 0:
            low, high = extremes(view)
            if low < 0 or high >= self.n:
                return [-24]
        self.views[r] = view
        return [size(view)]

    def get_view(self, p):
        if not 0 <= p <= 5:
            return [-10]
        offset, axes = self.views[p]
        return [offset, len(axes)] + axes

    def cell_at(self, p, index):
        if not 0 <= p <= 5:
            return [-10]
        if tuple(index) not in reference.indices(self.views[p]):
            return [-12]
        return [reference.cell(self.views[p], index)]

    def solve(self, target, variables):
        code = self.refused_variables(variables)
        return code or reference.solve_answer(target, variables)

    def check_certificate(self, target, variables, certificate):
        code = self.refused_variables(variables)
        return code or reference.check_answer(target, variables, certificate)

    def find_shared(self, p, q):
        return self.refused([p, q]) or reference.shared_answer(self.views[p], self.views[q])

    def prove_disjoint(self, p, q, certificate):
        if self.refused([p, q]):
            return [-10]
        return reference.check_answer(*reference.shared_variables(self.views[p], self.views[q]), certificate)

    def find_repetition(self, p):
        return self.refused([p]) or reference.repetition_answer(self.views[p])

    def prove_distinct(self, p, certificates):
        return self.refused([p]) or reference.distinct_answer(self.views[p], certificates)

    def elements_with_cell(self, p, x):
        return self.refused_lists([p]) or reference.elements_answer(self.views[p], x)

    def cell_statistics(self, p):
        return self.refused_lists([p]) or reference.statistics_answer(self.views[p])

    def shared_statistics(self, p, q):
        return self.refused_lists([p, q]) or reference.shared_statistics_answer(self.views[p], self.views[q])

    def first_shared_pair(self, p, q):
        return self.refused_lists([p, q]) or reference.first_pair_answer(self.views[p], self.views[q])

    def first_repeated(self, p):
        return self.refused_lists([p]) or reference.first_repeated_answer(self.views[p])

    def is_covered(self, p, q):
        return self.refused_lists([p, q]) or reference.covered_answer(self.views[p], self.views[q])

    def refused(self, numbers):
        return [] if all(0 <= number <= 5 for number in numbers) else [-10]

    def refused_lists(self, numbers):
        if self.refused(numbers):
            return [-10]
        return [-31] if any(size(self.views[number]) > 400 for number in numbers) else []

    def refused_variables(self, variables):
        if len(variables) % 2 == 1 or len(variables) > 16:
            return [-25]
        return [-26] if any(not 0 <= upper <= GREATEST for upper in variables[1::2]) else []
