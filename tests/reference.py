"""The terms of the document, word by word and without any short cut.

A box is a target and a list of variables, each one a tuple of its
coefficient, its lower bound and its upper bound. For small bounds only.
"""

from itertools import product
from math import gcd

BOX_LIMIT = 2000


class TooManyBoxes(Exception):
    pass


def boxed(variables):
    """Return the variables of a call, a coefficient and an upper bound each."""
    return [(c, 0, upper) for c, upper in zip(variables[0::2], variables[1::2])]


def free(box):
    return [place for place, (c, lower, upper) in enumerate(box) if lower < upper and c != 0]


def by_range(target, box):
    if any(upper < lower for c, lower, upper in box):
        return True
    least = sum(min(c * lower, c * upper) for c, lower, upper in box)
    greatest = sum(max(c * lower, c * upper) for c, lower, upper in box)
    return target < least or target > greatest


def by_divisibility(target, box):
    left = target - sum(c * lower for c, lower, upper in box)
    divisor = gcd(*[box[place][0] for place in free(box)])
    return left != 0 if divisor == 0 else left % divisor != 0


def least_of_free(target, box):
    """Try all values of the free variables, the others at their lower bounds."""
    places = free(box)
    values = [lower for c, lower, upper in box]
    for choice in product(*[range(box[place][1], box[place][2] + 1) for place in places]):
        for place, value in zip(places, choice):
            values[place] = value
        if sum(c * value for (c, lower, upper), value in zip(box, values)) == target:
            return values
    return None


def by_pair(target, box):
    return len(free(box)) == 2 and not by_divisibility(target, box) and least_of_free(target, box) is None


def halves(box):
    place = free(box)[0]
    c, lower, upper = box[place]
    middle = (lower + upper) // 2
    left = box[:place] + [(c, lower, middle)] + box[place + 1:]
    right = box[:place] + [(c, middle + 1, upper)] + box[place + 1:]
    return left, right


def examine(target, box, claims):
    """Return the solution that the examination finds or None, and add its claims."""
    if len(claims) >= BOX_LIMIT:
        raise TooManyBoxes()
    claims.append(0)
    here = len(claims) - 1
    if by_range(target, box):
        claims[here] = 1
        return None
    if by_divisibility(target, box):
        claims[here] = 2
        return None
    if len(free(box)) <= 2:
        claims[here] = 3
        return least_of_free(target, box)
    left, right = halves(box)
    solution = examine(target, left, claims)
    if solution is None:
        solution = examine(target, right, claims)
    return solution


def solve_answer(target, variables):
    """Return what solve answers."""
    claims = []
    try:
        solution = examine(target, boxed(variables), claims)
    except TooManyBoxes:
        return [-30]
    if solution is None:
        return [0, len(claims)] + claims
    return [1, len(solution)] + solution


def examined(target, variables):
    """Return how many boxes the search examines."""
    claims = []
    examine(target, boxed(variables), claims)
    return len(claims)


def validity(target, box, certificate):
    """Return whether the certificate at the list's start is valid, and what follows it.

    The rest is None if no certificate stands at the start.
    """
    if not certificate or certificate[0] not in (0, 1, 2, 3):
        return False, None
    claim, rest = certificate[0], certificate[1:]
    if claim == 1:
        return by_range(target, box), rest
    if claim == 2:
        return by_divisibility(target, box), rest
    if claim == 3:
        return by_pair(target, box), rest
    # Where nothing can be bisected, the box itself serves to read on.
    left, right = halves(box) if free(box) else (box, box)
    left_valid, rest = validity(target, left, rest)
    if rest is None:
        return False, None
    right_valid, rest = validity(target, right, rest)
    return bool(free(box)) and left_valid and right_valid, rest


def check_answer(target, variables, certificate):
    """Return what check_certificate answers."""
    valid, rest = validity(target, boxed(variables), certificate)
    if rest is None or rest:
        return [-33]
    return [1 if valid else 0]


def least_solution(target, variables):
    """Return the least solution by trying all values in order, or None."""
    coefficients = variables[0::2]
    for values in product(*[range(upper + 1) for upper in variables[1::2]]):
        if sum(c * value for c, value in zip(coefficients, values)) == target:
            return list(values)
    return None


def indices(view):
    """Return all indices of a view, an offset and a list of axes, in order."""
    if 0 in view[1][0::2]:
        return []
    return list(product(*[range(length) for length in view[1][0::2]]))


def cell(view, index):
    return view[0] + sum(i * stride for i, stride in zip(index, view[1][1::2]))


def least_shared(p, q):
    """Return the least pair of indices with the same cell, or None."""
    for left in indices(p):
        for right in indices(q):
            if cell(p, left) == cell(q, right):
                return list(left), list(right)
    return None


def shared_variables(p, q):
    """Return the equation of shared cells as target and variables of a call to solve."""
    variables = []
    for length, stride in zip(p[1][0::2], p[1][1::2]):
        variables += [stride, length - 1]
    for length, stride in zip(q[1][0::2], q[1][1::2]):
        variables += [-stride, length - 1]
    return q[0] - p[0], variables


def shared_answer(p, q):
    """Return what find_shared answers."""
    target, variables = shared_variables(p, q)
    answer = solve_answer(target, variables)
    if answer[0] != 1:
        return answer
    left, right = answer[2:2 + len(p[1]) // 2], answer[2 + len(p[1]) // 2:]
    return [1, len(left)] + left + [len(right)] + right


def repetition_axes(view):
    """Return the axes that are processed, in their order."""
    lengths = view[1][0::2]
    return [] if 0 in lengths else [k for k in reversed(range(len(lengths))) if lengths[k] >= 2]


def repetition_variables(view, k):
    """Return the equation of repeated cells from axis k on as a call to solve has it."""
    lengths, strides = view[1][0::2], view[1][1::2]
    variables = [strides[k], lengths[k] - 2]
    target = -strides[k]
    for j in range(k + 1, len(lengths)):
        variables += [strides[j], 2 * (lengths[j] - 1)]
        target += strides[j] * (lengths[j] - 1)
    return target, variables


def repetition_searched(view):
    """Return what find_repetition answers, and how many boxes that takes."""
    lengths = view[1][0::2]
    claims = []
    for k in repetition_axes(view):
        target, variables = repetition_variables(view, k)
        try:
            solution = examine(target, boxed(variables), claims)
        except TooManyBoxes:
            return [-30], len(claims)
        if solution is not None:
            return told_indices(k, lengths, solution), len(claims)
    return [0, len(claims)] + claims, len(claims)


def told_indices(k, lengths, solution):
    x, y = [0] * len(lengths), [0] * len(lengths)
    for j, value in enumerate(solution, k):
        d = value + 1 if j == k else value - (lengths[j] - 1)
        if d > 0:
            y[j] = d
        else:
            x[j] = -d
    return [1, len(x)] + x + [len(y)] + y


def repetition_answer(view):
    return repetition_searched(view)[0]


def distinct_answer(view, certificates):
    """Return what prove_distinct answers."""
    rest = certificates
    all_valid = True
    for k in repetition_axes(view):
        target, variables = repetition_variables(view, k)
        valid, rest = validity(target, boxed(variables), rest)
        if rest is None:
            return [0]
        all_valid = all_valid and valid
    return [1 if all_valid and not rest else 0]


def least_repetition(view):
    """Return the indices that find_repetition answers, by comparing all pairs, or None."""
    found = indices(view)
    differences = {}
    for place, x in enumerate(found):
        for y in found[place + 1:]:
            if cell(view, x) == cell(view, y):
                d = [b - a for a, b in zip(x, y)]
                first = [step != 0 for step in d].index(True)
                differences[first] = min(d, differences.get(first, d))
    if not differences:
        return None
    d = differences[max(differences)]
    return [max(0, -step) for step in d], [max(0, step) for step in d]


def cells(view):
    """Return the cell of each element, in order."""
    return [cell(view, index) for index in indices(view)]


def elements_answer(view, x):
    numbers = [number for number, other in enumerate(cells(view)) if other == x]
    return [len(numbers)] + numbers


def statistics_answer(view):
    listed = cells(view)
    if not listed:
        return [0, 0, 0]
    most = max(listed.count(x) for x in listed)
    return [len(set(listed)), most, min(x for x in listed if listed.count(x) == most)]


def shared_statistics_answer(p, q):
    left, right = cells(p), cells(q)
    return [len(set(left) & set(right)), sum(right.count(x) for x in left)]


def first_pair_answer(p, q):
    left, right = cells(p), cells(q)
    for i, x in enumerate(left):
        if x in right:
            return [1, i, right.index(x)]
    return [0]


def first_repeated_answer(view):
    listed = cells(view)
    for i, x in enumerate(listed):
        if x in listed[i + 1:]:
            return [1, i, listed.index(x, i + 1)]
    return [0]


def covered_answer(p, q):
    right = cells(q)
    for i, x in enumerate(cells(p)):
        if x not in right:
            return [0, i]
    return [1]
