"""Certificates that an equation has no solution: searched for and checked."""

from viewoverlap.boxes import least_values
from viewoverlap.boxes import whole_box
from viewoverlap.refusals import SearchLimitExceeded

BISECTION = 0
BY_RANGE = 1
BY_DIVISIBILITY = 2
BY_PAIR = 3


def search(equation, box_limit):
    """Return the least solution or None, and the claims of the boxes before it.

    Without a solution the claims are the certificate. They are as many as
    the boxes without a solution that were examined, so they count these too.
    """
    claims = []
    boxes = [whole_box(equation)]
    while boxes:
        if len(claims) == box_limit:
            raise SearchLimitExceeded()
        box = boxes.pop()
        claim = BY_PAIR
        if box.fails_range():
            claim = BY_RANGE
        elif box.fails_divisibility():
            claim = BY_DIVISIBILITY
        elif box.free_count() > 2:
            claim = BISECTION
            push_halves(boxes, box)
        else:
            free_values = least_values(box)
            if free_values is not None:
                return equation.full_solution(free_values), claims
        claims.append(claim)
    return None, claims


def push_halves(boxes, box):
    """Put the halves of the box on the stack, the left one on top."""
    left, right = box.halves()
    boxes.append(right)
    boxes.append(left)


def separated(claims):
    """Return the certificates that the list consists of, be they valid or not.

    Return None if it is not a sequence of certificates.
    """
    certificates = []
    start = 0
    missing = 1
    for place, claim in enumerate(claims):
        if not BISECTION <= claim <= BY_PAIR:
            return None
        missing += 1 if claim == BISECTION else -1
        if missing == 0:
            certificates.append(claims[start:place + 1])
            start = place + 1
            missing = 1
    return certificates if start == len(claims) else None


def is_one_certificate(claims):
    """Tell whether the list is exactly one certificate, be it valid or not."""
    certificates = separated(claims)
    return certificates is not None and len(certificates) == 1


def is_valid(equation, certificate):
    """Tell whether all claims of exactly one certificate are true for the equation."""
    boxes = [whole_box(equation)]
    for claim in certificate:
        box = boxes.pop()
        if not is_true_claim(claim, box):
            return False
        if claim == BISECTION:
            push_halves(boxes, box)
    return True


def is_true_claim(claim, box):
    """Tell whether a claim is true for the box itself, leaving its halves aside."""
    if claim == BISECTION:
        return box.free_count() > 0
    if claim == BY_RANGE:
        return box.fails_range()
    if claim == BY_DIVISIBILITY:
        return box.fails_divisibility()
    return box.fails_pair()
