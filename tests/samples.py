"""Views, certificates and setups that several test files use."""

import random
from math import prod

from tests.support import set_length
from tests.support import set_view

# The length of the array that small views are placed in.
ARRAY = 60


def placed(axes, chance, array=ARRAY):
    """Return a view of these axes at some offset within the array, or None."""
    spans = [(length - 1) * stride for length, stride in zip(axes[0::2], axes[1::2])]
    low = -sum(min(0, span) for span in spans)
    high = array - 1 - sum(max(0, span) for span in spans)
    return (chance.randint(low, high), axes) if low <= high else None


def small_views(seed, amount, least_axes, most_axes):
    """Return views in the array that differ, in canonical form, the same ones each time."""
    chance = random.Random(seed)
    views = []
    while len(views) < amount:
        axes = []
        for place in range(chance.randint(least_axes, most_axes)):
            length = chance.choice((1, 2, 2, 3, 3, 4))
            axes += [length, chance.choice((-12, -6, -4, 0, 2, 3, 6, 9, 12)) if length > 1 else 0]
        view = placed(axes, chance)
        if view is not None:
            views.append(view)
    return views


def middling_views(seed, amount, array):
    """Return views of up to 400 elements in a longer array."""
    chance = random.Random(seed)
    views = []
    while len(views) < amount:
        lengths = [chance.choice((1, 2, 3, 4, 5, 7, 10, 20)) for place in range(chance.randint(1, 5))]
        axes = []
        for length in lengths:
            stride = chance.choice((0, 1, 2, 5, 6, 10, 15, 21, 40, 105)) * chance.choice((-1, 1))
            axes += [length, stride if length > 1 else 0]
        if prod(lengths) <= 400:
            view = placed(axes, chance, array)
            if view is not None:
                views.append(view)
    return views


def stored(n, *views):
    """Return the calls that store the views in the registers from 1 on."""
    return [set_length(n)] + [set_view(r, *view) for r, view in enumerate(views, 1)]


def trees(splits):
    """Return all certificates with so many claims 0 and any claims else."""
    if splits == 0:
        return [[1], [2], [3]]
    found = []
    for left in range(splits):
        for first in trees(left):
            found += [[0] + first + second for second in trees(splits - 1 - left)]
    return found


SMALL_TREES = [tree for splits in range(3) for tree in trees(splits)]


def balanced(splits, leaf):
    """Return a certificate of low depth with so many claims 0."""
    if splits == 0:
        return [leaf]
    left = (splits - 1) // 2
    return [0] + balanced(left, leaf) + balanced(splits - 1 - left, leaf)
