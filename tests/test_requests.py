"""The form of requests, and the document's examples."""

import unittest
from time import perf_counter

from viewoverlap.overlaps import answers
from tests.samples import balanced
from tests.support import GREATEST
from tests.support import ask
from tests.support import cell_at
from tests.support import cell_statistics
from tests.support import check_certificate
from tests.support import elements_with_cell
from tests.support import find_repetition
from tests.support import find_shared
from tests.support import first_repeated
from tests.support import first_shared_pair
from tests.support import get_view
from tests.support import is_covered
from tests.support import last
from tests.support import prove_disjoint
from tests.support import prove_distinct
from tests.support import set_length
from tests.support import set_view
from tests.support import shared_statistics
from tests.support import solve

EXAMPLE = [set_length(30), set_view(1, 0, [3, 10, 4, 2]), set_view(2, 29, [5, -6])]


def flat(calls):
    return [number for call in calls for number in call]


class Examples(unittest.TestCase):
    def test_the_table(self):
        calls = EXAMPLE + [
            get_view(2),
            find_shared(1, 2),
            first_shared_pair(1, 2),
            set_view(3, 1, [4, 2]),
            prove_disjoint(1, 3, [2]),
            find_repetition(1),
            set_view(4, 0, [3, 2, 4, 3]),
            find_repetition(4),
            prove_distinct(4, [1, 3]),
            cell_statistics(4),
            shared_statistics(1, 4),
            find_shared(1, 4),
            solve(1, [6, 1, 10, 1, 15, 1]),
            check_certificate(1, [6, 1, 10, 1, 15, 1], [0, 2, 1]),
            solve(7, [4, 9, 6, 9, 10, 9]),
            solve(8, [4, 9, 6, 9, 10, 9]),
            solve(1000003, [1000, 1000000, -999, 1000000]),
            solve(0, []),
        ]
        self.assertEqual(ask(*calls), [
            [30],
            [12],
            [5],
            [29, 2, 5, -6],
            [0, 1, 2],
            [0],
            [4],
            [1],
            [0, 2, 1, 1],
            [12],
            [0, 2, 1, 3],
            [1],
            [12, 1, 0],
            [5, 5],
            [1, 2, 0, 0, 2, 0, 0],
            [0, 3, 0, 2, 1],
            [1],
            [0, 1, 2],
            [1, 3, 2, 0, 0],
            [1, 2, 1003, 3],
            [1, 0],
        ])

    def test_the_cells_of_the_example_views(self):
        first = [cell_at(1, [i, j]) for i in range(3) for j in range(4)]
        second = [cell_at(2, [i]) for i in range(5)]
        cells = [0, 2, 4, 6, 10, 12, 14, 16, 20, 22, 24, 26, 29, 23, 17, 11, 5]
        self.assertEqual(ask(*EXAMPLE, *first, *second)[3:], [[cell] for cell in cells])


class Form(unittest.TestCase):
    def test_each_answer_stands_behind_its_length(self):
        calls = [0, 9, 1, 1, 8, 2, 3, -1, 2, 1, 3, 1, 1, 2, 4, 0, 0, 5, 1, 0, 1, 1, 6, 1, 0, 7, 0, 1, 1, 2]
        expected = [1, 9, 1, 3, 4, 8, 2, 3, -1, 1, 6, 2, 1, 0, 1, 1, 5, 1, 1, 0, 1, 8, 1, 0]
        self.assertEqual(answers(calls), expected)

    def test_each_answer_of_the_later_operations_stands_behind_its_length(self):
        # Registers 1 and 2 hold the cells 8, 7, 8, 7 and 7, 6, 5.
        calls = [0, 9, 1, 1, 8, 4, 2, 0, 2, -1, 1, 2, 7, 2, 3, -1]
        calls += [8, 1, 8, 2, 9, 2, 1, 1, 9, 1, 0, 10, 1, 7, 10, 1, 5, 11, 1]
        calls += [12, 1, 2, 13, 1, 2, 13, 2, 1, 14, 1, 14, 2, 15, 1, 2, 15, 2, 2]
        expected = [1, 9, 1, 4, 1, 3]
        expected += [7, 1, 2, 0, 0, 2, 1, 0, 3, 0, 1, 1, 1, 1, 1, 0, 3, 2, 1, 3, 1, 0, 3, 2, 2, 7]
        expected += [2, 1, 2, 3, 1, 1, 0, 3, 1, 0, 1, 3, 1, 0, 2, 1, 0, 2, 0, 0, 1, 1]
        self.assertEqual(answers(calls), expected)

    def test_an_error_is_answered_by_its_code_alone(self):
        calls = flat([
            set_length(-1),
            set_view(6, 0, []),
            get_view(-1),
            cell_at(0, [0]),
            solve(0, [1]),
            check_certificate(0, [], []),
            find_shared(0, 6),
            prove_disjoint(0, 0, [0]),
            find_repetition(6),
            prove_distinct(-1, [1]),
            elements_with_cell(6, 0),
            set_length(401),
            cell_statistics(0),
            shared_statistics(0, 1),
            first_shared_pair(0, 1),
            first_repeated(0),
            is_covered(0, 1),
        ])
        codes = [-11, -10, -10, -12, -25, -33, -10, -33, -10, -10, -10, 401, -31, -31, -31, -31, -31]
        self.assertEqual(answers(calls), flat([[1, code] for code in codes]))

    def test_calls_behind_an_error_are_still_answered(self):
        found = ask(set_view(0, 0, [1] * 19), solve(0, [1] * 15), cell_at(0, [5] * 20), set_length(4), get_view(0))
        self.assertEqual(found, [[-21], [-25], [-12], [4], [0, 2, 4, 1]])

    def test_calls_apply_to_one_object_in_order(self):
        found = ask(
            get_view(1), set_length(20), get_view(1), set_view(1, 3, [4, 2]), get_view(1), find_shared(1, 0),
            set_view(0, 6, [2, 8]), find_shared(1, 0), set_length(2), get_view(1), cell_at(1, [1]), set_view(1, 3, []),
        )
        self.assertEqual(found, [
            [0, 2, 0, 0], [20], [0, 2, 20, 1], [4], [3, 2, 4, 2], [1, 1, 0, 1, 3],
            [2], [0, 1, 2], [2], [0, 2, 2, 1], [1], [-24],
        ])

    def test_three_hundred_calls(self):
        calls = EXAMPLE + [cell_at(2, [turn % 6]) for turn in range(297)]
        expected = [[-12] if turn % 6 == 5 else [29 - 6 * (turn % 6)] for turn in range(297)]
        self.assertEqual(ask(*calls)[3:], expected)


class NothingKept(unittest.TestCase):
    CALLS = flat(EXAMPLE + [
        get_view(2),
        find_shared(1, 2),
        prove_disjoint(1, 2, [2]),
        prove_disjoint(1, 2, [0, 2, 2]),
        find_repetition(1),
        prove_distinct(1, [1, 1]),
        prove_distinct(1, [1, 1, 4]),
        elements_with_cell(1, 14),
        cell_statistics(1),
        shared_statistics(1, 2),
        first_shared_pair(1, 0),
        first_repeated(2),
        is_covered(2, 1),
        solve(7, [3, 2, 5, 2]),
        solve(2999, [1, 1023, 2000, 9, 2000, 9]),
        check_certificate(1, [2, GREATEST] * 8, [0] * 1249 + [2] * 1250),
        set_view(2, 30, []),
        cell_at(1, [0, 9]),
    ])

    def test_answers_called_twice_gives_the_same(self):
        first = answers(list(self.CALLS))
        self.assertEqual(answers(list(self.CALLS)), first)

    def test_a_new_object_each_time(self):
        answers(list(self.CALLS))
        self.assertEqual(ask(get_view(1), get_view(2)), [[0, 2, 0, 0]] * 2)

    def test_the_list_handed_in_stays_as_it_was(self):
        calls = list(self.CALLS)
        answers(calls)
        self.assertEqual(calls, self.CALLS)

    def test_what_is_given_back_is_not_kept(self):
        first = answers(list(self.CALLS))
        copy = list(first)
        first.clear()
        self.assertEqual(answers(list(self.CALLS)), copy)

    def test_a_list_and_plain_numbers_are_given_back(self):
        found = answers(list(self.CALLS))
        self.assertIs(type(found), list)
        self.assertEqual(set(type(number) for number in found), {int})


class LastCall(unittest.TestCase):
    def test_a_call_that_ends_with_an_empty_row(self):
        self.assertEqual(last(solve(0, [])), [1, 0])
        self.assertEqual(last(set_length(1), set_view(0, 0, [])), [1])
        self.assertEqual(last(prove_disjoint(0, 0, [])), [-33])
        self.assertEqual(last(prove_distinct(0, [])), [1])


class LongRequests(unittest.TestCase):
    """Lists of 300 calls that are as much work as calls may be end in some seconds."""

    def check(self, setup, calls, wanted):
        """Make the calls again and again, and compare one by one, since a difference takes long to show."""
        turns = 300 - len(setup)
        before = perf_counter()
        found = ask(*setup, *[calls[turn % len(calls)] for turn in range(turns)])[len(setup):]
        self.assertLess(perf_counter() - before, 20)
        for turn in range(turns):
            self.assertEqual(found[turn], wanted[turn % len(calls)])

    def test_searches_that_exceed_the_limit(self):
        variables = [1, 1023, 2000, 9, 2000, 9]
        axes = [2, 500000, 2, 1000, 334, 1, 10, 2000, 10, 20000]
        setup = [set_length(10 ** 6), set_view(1, 0, axes)]
        self.check(setup, [solve(2999, variables), find_repetition(1)], [[-30], [-30]])

    def test_searches_with_many_variables(self):
        axes = [64, 1, 64, 3, 64, 10 ** 6, 64, 10 ** 8, 2, 10 ** 11, 2, 10 ** 13]
        other = [64, 2, 64, 5, 64, 10 ** 6 + 1, 64, 10 ** 8 + 3, 2, 10 ** 11 + 7, 2, 10 ** 13 + 9]
        setup = [set_length(GREATEST), set_view(1, 0, axes), set_view(2, 500, other)]
        self.check(setup, [find_shared(1, 2)], [[-30]])

    def test_views_of_400_elements(self):
        setup = [set_length(1000), set_view(1, 999, [20, -20, 20, -1]), set_view(2, 999, [400, -1])]
        calls = [
            elements_with_cell(1, 999), cell_statistics(1), shared_statistics(1, 2),
            first_shared_pair(1, 2), first_repeated(1), is_covered(1, 2),
        ]
        self.check(setup, calls, [[1, 0], [400, 1, 600], [400, 400], [1, 0, 0], [0], [1]])
        setup = [set_length(1000), set_view(1, 999, [20, 0, 20, 0]), set_view(2, 999, [400, 0])]
        everywhere = [400] + list(range(400))
        self.check(setup, calls, [everywhere, [1, 400, 999], [1, 160000], [1, 0, 0], [1, 0, 1], [1]])

    def test_lists_of_17000_numbers(self):
        setup = [set_length(GREATEST), set_view(1, 0, [10 ** 9, 10 ** 9, 10 ** 9, 1])]
        calls = [prove_distinct(1, [1] + balanced(1249, 1))] * 6 + [prove_distinct(1, [1] * 1900)]
        numbers = flat(setup + calls)
        self.assertLessEqual(len(numbers), 17000)
        self.assertGreater(len(numbers), 16900)
        self.assertEqual(ask(*setup, *calls)[2:], [[1]] * 6 + [[0]])
        long_view = [set_view(1, 0, [1, 0] * 6)] + [prove_distinct(1, [0] * 40)] * 298
        self.assertLessEqual(len(flat(long_view)), 17000)
        self.assertEqual(ask(set_length(1), *long_view)[2:], [[0]] * 298)


if __name__ == "__main__":
    unittest.main()
