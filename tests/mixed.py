"""Lists of calls of all sixteen operations, some of them wrong."""

import random

from tests.samples import SMALL_TREES
from tests.support import GREATEST
from tests.support import NO_REGISTER
from tests.support import cell_at
from tests.support import cell_statistics
from tests.support import check_certificate
from tests.support import elements_with_cell
from tests.support import find_repetition
from tests.support import find_shared
from tests.support import first_repeated
from tests.support import first_shared_pair
from tests.support import get_view
from tests.support import is_covered
from tests.support import prove_disjoint
from tests.support import prove_distinct
from tests.support import set_length
from tests.support import set_view
from tests.support import shared_statistics
from tests.support import solve

# What writes a call, by its operation number.
WRITTEN = (
    set_length, set_view, get_view, cell_at, solve, check_certificate, find_shared, prove_disjoint,
    find_repetition, prove_distinct, elements_with_cell, cell_statistics, shared_statistics, first_shared_pair,
    first_repeated, is_covered,
)


class Mixed:
    """Makes calls, the same ones for the same seed."""

    def __init__(self, seed, array):
        self.chance = random.Random(seed)
        self.array = array

    def number(self):
        return self.chance.choice(NO_REGISTER) if self.chance.random() < 0.04 else self.chance.randint(0, 5)

    def axes(self):
        chance = self.chance
        if chance.random() < 0.06:
            return chance.choice(([1], [2, 1] * 7, [-1, 1], [GREATEST, 0, 2, 0], [GREATEST, 1], [2, 1] * 6 + [1]))
        if chance.random() < 0.08:
            return chance.choice(([401, 0], [0, 5], [2, 1, 0, 9], [400, 0], [GREATEST, 1, 0, 1], [21, 0, 20, 1], [1, 7]))
        lengths = [chance.choice((1, 2, 2, 3, 3, 4)) for place in range(chance.randint(0, 3))]
        return [number for length in lengths for number in (length, chance.randint(-9, 9))]

    def certificate(self):
        return self.chance.choice(SMALL_TREES + [[], [0], [1, 1], [1, 3], [1, 1, 1], [1, 0, 1, 1], [4], [2, -1]])

    def variables(self):
        chance = self.chance
        if chance.random() < 0.1:
            return chance.choice(([1], [1, 1] * 9, [1, -1], [3, 2, 2, -1]))
        return [number for place in range(chance.randint(0, 4)) for number in (chance.randint(-9, 9), chance.randint(0, 4))]

    def call(self, operation):
        """Return a call as it is written, and the arguments of the same call."""
        chance = self.chance
        arguments = {
            0: lambda: [chance.choice((0, 1, self.array, self.array + 7, -1))],
            1: lambda: [self.number(), chance.randint(-2, self.array), self.axes()],
            2: lambda: [self.number()],
            3: lambda: [self.number(), [chance.randint(0, 2) for place in range(chance.randint(0, 3))]],
            4: lambda: [chance.randint(-20, 40), self.variables()],
            5: lambda: [chance.randint(-20, 40), self.variables(), self.certificate()],
            6: lambda: [self.number(), self.number()],
            7: lambda: [self.number(), self.number(), self.certificate()],
            8: lambda: [self.number()],
            9: lambda: [self.number(), self.certificate()],
            10: lambda: [self.number(), chance.choice((-GREATEST, GREATEST, -1, chance.randint(0, self.array)))],
            11: lambda: [self.number()],
            12: lambda: [self.number(), self.number()],
            13: lambda: [self.number(), self.number()],
            14: lambda: [self.number()],
            15: lambda: [self.number(), self.number()],
        }[operation]()
        return WRITTEN[operation](*arguments), arguments

    def operation(self):
        return self.chance.choice((0, 1) + (1,) * 8 + tuple(range(2, 16)) * 2)
