"""The entry of the package: a list of calls on one new object."""

from viewoverlap.operations import cell_at
from viewoverlap.operations import check_certificate
from viewoverlap.operations import find_repetition
from viewoverlap.operations import find_shared
from viewoverlap.operations import get_view
from viewoverlap.operations import prove_disjoint
from viewoverlap.operations import prove_distinct
from viewoverlap.operations import set_length
from viewoverlap.operations import set_view
from viewoverlap.operations import solve
from viewoverlap.refusals import Refusal
from viewoverlap.small_views import cell_statistics
from viewoverlap.small_views import elements_with_cell
from viewoverlap.small_views import first_repeated
from viewoverlap.small_views import first_shared_pair
from viewoverlap.small_views import is_covered
from viewoverlap.small_views import shared_statistics
from viewoverlap.store import Store

# How many whole numbers and how many rows a call has, by its operation number.
FORMS = (
    (1, 0), (2, 1), (1, 0), (1, 1), (1, 1), (1, 2), (2, 0), (2, 1),
    (1, 0), (1, 1), (2, 0), (1, 0), (2, 0), (2, 0), (1, 0), (2, 0),
)


def answers(calls):
    """Return the answers to the calls, each one behind its length."""
    store = Store()
    result = []
    place = 0
    while place < len(calls):
        operation = calls[place]
        number_count, row_count = FORMS[operation]
        rows_start = place + 1 + number_count
        numbers = calls[place + 1:rows_start]
        rows, place = read_rows(calls, rows_start, row_count)
        answer = answer_or_code(store, operation, numbers, rows)
        result.append(len(answer))
        result.extend(answer)
    return result


def read_rows(calls, start, count):
    """Return so many rows, read from the start on, and the place behind them."""
    rows = []
    place = start
    for turn in range(count):
        end = place + 1 + calls[place]
        rows.append(calls[place + 1:end])
        place = end
    return rows, place


def answer_or_code(store, operation, numbers, rows):
    """Return the answer to a call, which is the code alone if the call fails."""
    try:
        return answer_to(store, operation, numbers, rows)
    except Refusal as refusal:
        return [refusal.code]


def answer_to(store, operation, numbers, rows):
    """Return the answer to a call that does not fail."""
    if operation == 0:
        return set_length(store, numbers[0])
    if operation == 1:
        return set_view(store, numbers[0], numbers[1], rows[0])
    if operation == 2:
        return get_view(store, numbers[0])
    if operation == 3:
        return cell_at(store, numbers[0], rows[0])
    if operation == 4:
        return solve(numbers[0], rows[0])
    if operation == 5:
        return check_certificate(numbers[0], rows[0], rows[1])
    if operation == 6:
        return find_shared(store, numbers[0], numbers[1])
    if operation == 7:
        return prove_disjoint(store, numbers[0], numbers[1], rows[0])
    if operation == 8:
        return find_repetition(store, numbers[0])
    if operation == 9:
        return prove_distinct(store, numbers[0], rows[0])
    return small_views_answer(store, operation, numbers)


def small_views_answer(store, operation, numbers):
    """Return the answer to a call that goes through views element by element."""
    if operation == 10:
        return elements_with_cell(store, numbers[0], numbers[1])
    if operation == 11:
        return cell_statistics(store, numbers[0])
    if operation == 12:
        return shared_statistics(store, numbers[0], numbers[1])
    if operation == 13:
        return first_shared_pair(store, numbers[0], numbers[1])
    if operation == 14:
        return first_repeated(store, numbers[0])
    return is_covered(store, numbers[0], numbers[1])
