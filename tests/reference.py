"""The terms of the document, word by word and without any short cut.

A box is a target and a list of variables, each one a tuple of its
coefficient, its lower bound and its upper bound. For small bounds only.
"""

from itertools import product
from math import gcd

BOX_LIMIT = 2000


class TooManyBoxes(Exception):
    pass


def boxed(variables):
    """Return the variables of a call, a coefficient and an upper bound each."""
    return [(c, 0, upper) for c, upper in zip(variables[0::2], variables[1::2])]


def free(box):
    return [place for place, (c, lower, upper) in enumerate(box) if lower < upper and c != 0]


def by_range(target, box):
    if any(upper < lower for c, lower, upper in box):
        return True
    least = sum(min(c * lower, c * upper) for c, lower, upper in box)
    greatest = sum(max(c * lower, c * upper) for c, lower, upper in box)
    return target < least or target > greatest


def by_divisibility(target, box):
    left = target - sum(c * lower for c, lower, upper in box)
    divisor = gcd(*[box[place][0] for place in free(box)])
    return left != 0 if divisor == 0 else left % divisor != 0


def least_of_free(target, box):
    """Try all values of the free variables, the others at their lower bounds."""
    places = free(box)
    values = [lower for c, lower, upper in box]
    for choice in product(*[range(box[place][1], box[place][2] + 1) for place in places]):
        for place, value in zip(places, choice):
            values[place] = value
        if sum(c * value for (c, lower, upper), value in zip(box, values)) == target:
            return values
    return None


def by_pair(target, box):
    return len(free(box)) == 2 and not by_divisibility(target, box) and least_of_free(target, box) is None


def halves(box):
    place = free(box)[0]
    c, lower, upper = box[place]
    middle = (lower + upper) // 2
    left = box[:place] + [(c, lower, middle)] + box[place + 1:]
    right = box[:place] + [(c, middle + 1, upper)] + box[place + 1:]
    return left, right


def examine(target, box, claims):
    """Return the solution that the examination finds or None, and add its claims."""
    if len(claims) >= BOX_LIMIT:
        raise TooManyBoxes()
    claims.append(0)
    here = len(claims) - 1
    if by_range(target, box):
        claims[here] = 1
        return None
    if by_divisibility(target, box):
        claims[here] = 2
        return None
    if len(free(box)) <= 2:
        claims[here] = 3
        return least_of_free(target, box)
    left, right = halves(box)
    solution = examine(target, left, claims)
    if solution is None:
        solution = examine(target, right, claims)
    return solution


def solve_answer(target, variables):
    """Return what solve answers."""
    claims = []
    try:
        solution = examine(target, boxed(variables), claims)
    except TooManyBoxes:
        return [-30]
    if solution is None:
        return [0, len(claims)] + claims
    return [1, len(solution)] + solution


def examined(target, variables):
    """Return how many boxes the search examines."""
    claims = []
    examine(target, boxed(variables), claims)
    return len(claims)


def validity(target, box, certificate):
    """Return whether the certificate at the list's start is valid, and what follows it.

    The rest is None if no certificate stands at the start.
    """
    if not certificate or certificate[0] not in (0, 1, 2, 3):
        return False, None
    claim, rest = certificate[0], certificate[1:]
    if claim == 1:
        return by_range(target, box), rest
    if claim == 2:
        return by_divisibility(target, box), rest
    if claim == 3:
        return by_pair(target, box), rest
    # Where nothing can be bisected, the box itself serves to read on.
    left, right = halves(box) if free(box) else (box, box)
    left_valid, rest = validity(target, left, rest)
    if rest is None:
        return False, None
    right_valid, rest = validity(target, right, rest)
    return bool(free(box)) and left_valid and right_valid, rest


def check_answer(target, variables, certificate):
    """Return what check_certificate answers."""
    valid, rest = validity(target, boxed(variables), certificate)
    if rest is None or rest:
        return [-33]
    return [1 if valid else 0]


def least_solution(target, variables):
    """Return the least solution by trying all values in order, or None."""
    coefficients = variables[0::2]
    for values in product(*[range(upper + 1) for upper in variables[1::2]]):
        if sum(c * value for c, value in zip(coefficients, values)) == target:
            return list(values)
    return None


def indices(view):
    """Return all indices of a view, an offset and a list of axes, in order."""
    return list(product(*[range(length) for length in view[1][0::2]]))


def cell(view, index):
    return view[0] + sum(i * stride for i, stride in zip(index, view[1][1::2]))


def least_shared(p, q):
    """Return the least pair of indices with the same cell, or None."""
    for left in indices(p):
        for right in indices(q):
            if cell(p, left) == cell(q, right):
                return list(left), list(right)
    return None
