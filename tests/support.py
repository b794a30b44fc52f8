"""Writes calls as lists of numbers and splits what comes back, call by call."""

from viewoverlap.overlaps import answers

GREATEST = 10 ** 18
NO_REGISTER = (-GREATEST, -1, 6, GREATEST)


def row(numbers):
    return [len(numbers)] + list(numbers)


def set_length(n):
    return [0, n]


def set_view(r, offset, axes):
    return [1, r, offset] + row(axes)


def get_view(p):
    return [2, p]


def cell_at(p, index):
    return [3, p] + row(index)


def solve(target, variables):
    return [4, target] + row(variables)


def check_certificate(target, variables, certificate):
    return [5, target] + row(variables) + row(certificate)


def find_shared(p, q):
    return [6, p, q]


def prove_disjoint(p, q, certificate):
    return [7, p, q] + row(certificate)


def find_repetition(p):
    return [8, p]


def prove_distinct(p, certificates):
    return [9, p] + row(certificates)


def elements_with_cell(p, x):
    return [10, p, x]


def cell_statistics(p):
    return [11, p]


def shared_statistics(p, q):
    return [12, p, q]


def first_shared_pair(p, q):
    return [13, p, q]


def first_repeated(p):
    return [14, p]


def is_covered(p, q):
    return [15, p, q]


def split(numbers):
    """Split the numbers that answers gives back into one list for each call."""
    parts = []
    place = 0
    while place < len(numbers):
        end = place + 1 + numbers[place]
        assert end <= len(numbers), "an answer is cut off"
        parts.append(numbers[place + 1:end])
        place = end
    return parts


def ask(*calls):
    """Return the answers to the calls on one new object."""
    parts = split(answers([number for call in calls for number in call]))
    assert len(parts) == len(calls), "there is one answer for each call"
    return parts


def last(*calls):
    """Return the answer to the last of the calls."""
    return ask(*calls)[-1]


def solve_all(equations):
    """Return the answers of solve to many equations, in as many requests as that takes."""
    found = []
    for start in range(0, len(equations), 200):
        found += ask(*[solve(target, variables) for target, variables in equations[start:start + 200]])
    return found


def assert_checked(test, cases, expected):
    """Compare what check_certificate answers to many cases with what is expected.

    One by one, since long lists that differ take long to show.
    """
    found = []
    for start in range(0, len(cases), 200):
        found += ask(*[check_certificate(*case) for case in cases[start:start + 200]])
    for case, answer, wanted in zip(cases, found, expected, strict=True):
        test.assertEqual(answer, wanted, case)
