"""elements_with_cell to is_covered, against plain enumeration."""

import unittest

from tests import reference
from tests.samples import ARRAY
from tests.samples import middling_views
from tests.samples import small_views
from tests.samples import stored
from tests.support import GREATEST
from tests.support import NO_REGISTER
from tests.support import ask
from tests.support import cell_statistics
from tests.support import elements_with_cell
from tests.support import first_repeated
from tests.support import first_shared_pair
from tests.support import get_view
from tests.support import is_covered
from tests.support import last
from tests.support import set_length
from tests.support import set_view
from tests.support import shared_statistics

OF_ONE_VIEW = (cell_statistics, first_repeated, lambda p: elements_with_cell(p, 0))
OF_TWO_VIEWS = (shared_statistics, first_shared_pair, is_covered)

# Views of 400 elements and of 401 in an array of 1000 cells.
JUST_FEW_ENOUGH = ((0, [400, 1]), (0, [20, 20, 20, 1]), (9, [400, 0]), (999, [2, -5, 200, -1]), (0, [2, 0] * 4 + [25, 0]))
TOO_MANY = ((0, [401, 1]), (9, [401, 0]), (999, [401, -2]), (0, [1, 0, 401, 2, 1, 0]), (0, [3, 100, 134, 1]))


def answer_for(view, call):
    found = ask(*stored(1000, view), call)
    assert found[1][0] >= 0, "the view does not fit into the array"
    return found[2]


def answer_for_two(p, q, call):
    found = ask(*stored(1000, p, q), call)
    assert min(found[1][0], found[2][0]) >= 0, "a view does not fit into the array"
    return found[3]


class Refusals(unittest.TestCase):
    def test_what_is_no_register(self):
        for wrong in NO_REGISTER:
            for call in OF_ONE_VIEW:
                self.assertEqual(last(set_length(9), call(wrong)), [-10])
            for call in OF_TWO_VIEWS:
                for p, q in ((wrong, 0), (0, wrong), (wrong, wrong)):
                    self.assertEqual(last(set_length(9), call(p, q)), [-10])

    def test_that_comes_before_views_with_too_many_elements(self):
        for wrong in NO_REGISTER:
            for call in OF_TWO_VIEWS:
                self.assertEqual(last(set_length(401), call(0, wrong)), [-10])
                self.assertEqual(last(set_length(401), call(wrong, 0)), [-10])

    def test_views_with_more_than_400_elements(self):
        for view in TOO_MANY:
            for call in OF_ONE_VIEW:
                self.assertEqual(answer_for(view, call(1)), [-31])
            for call in OF_TWO_VIEWS:
                for other in ((0, [3, 1]), (0, [400, 1]), (0, [0, 0]), view):
                    self.assertEqual(answer_for_two(view, other, call(1, 2)), [-31])
                    self.assertEqual(answer_for_two(view, other, call(2, 1)), [-31])
                self.assertEqual(answer_for(view, call(1, 1)), [-31])

    def test_views_with_400_elements_are_gone_through(self):
        for view in JUST_FEW_ENOUGH:
            self.assertEqual(answer_for(view, elements_with_cell(1, 9)), reference.elements_answer(view, 9))
            self.assertEqual(answer_for(view, cell_statistics(1)), reference.statistics_answer(view))
            self.assertEqual(answer_for(view, first_repeated(1)), reference.first_repeated_answer(view))
            for other in JUST_FEW_ENOUGH:
                found = ask(*stored(1000, view, other), *[call(1, 2) for call in OF_TWO_VIEWS])[3:]
                self.assertEqual(found, [
                    reference.shared_statistics_answer(view, other),
                    reference.first_pair_answer(view, other),
                    reference.covered_answer(view, other),
                ])

    def test_views_of_the_greatest_size(self):
        for axes in ([GREATEST, 1], [10 ** 9, 10 ** 9, 10 ** 9, 1], [GREATEST, 0]):
            setup = [set_length(GREATEST), set_view(0, 0, axes), set_view(1, 0, [])]
            for call in OF_ONE_VIEW:
                self.assertEqual(last(*setup, call(0)), [-31])
            for call in OF_TWO_VIEWS:
                self.assertEqual(ask(*setup, call(0, 1), call(1, 0))[3:], [[-31], [-31]])

    def test_all_registers_are_taken(self):
        for r in range(6):
            found = ask(
                set_length(9), set_view(r, 4, [2, 3]), elements_with_cell(r, 7), cell_statistics(r), first_repeated(r),
                shared_statistics(r, r), first_shared_pair(5 - r, r), is_covered(5 - r, r),
            )
            self.assertEqual(found[2:], [[1, 1], [2, 1, 4], [0], [2, 2], [1, 4, 0], [0, 0]])

    def test_an_error_leaves_the_views_as_they_were(self):
        setup = stored(1000, (0, [401, 1]), (999, [5, -6]))
        wrong = [call(1) for call in OF_ONE_VIEW] + [call(2, 1) for call in OF_TWO_VIEWS]
        wrong += [call(6) for call in OF_ONE_VIEW] + [call(2, -1) for call in OF_TWO_VIEWS]
        found = ask(*setup, *wrong, get_view(0), get_view(1), get_view(2))[3:]
        self.assertEqual(found[:12], [[-31]] * 6 + [[-10]] * 6)
        self.assertEqual(found[12:], [[0, 2, 1000, 1], [0, 2, 401, 1], [999, 2, 5, -6]])


class ElementsWithCell(unittest.TestCase):
    def test_cells_that_occur_once_several_times_and_not_at_all(self):
        # The cells are 0, 3, 6, 9, 2, 5, 8, 11, 4, 7, 10, 13.
        view = (0, [3, 2, 4, 3])
        for x, numbers in ((0, [0]), (13, [11]), (8, [6]), (1, []), (12, []), (14, [])):
            self.assertEqual(answer_for(view, elements_with_cell(1, x)), [len(numbers)] + numbers)
        # The cells are 9, 8, 7, 8, 7, 6, 7, 6, 5.
        view = (9, [3, -1, 3, -1])
        for x, numbers in ((9, [0]), (8, [1, 3]), (7, [2, 4, 6]), (6, [5, 7]), (5, [8]), (4, []), (10, [])):
            self.assertEqual(answer_for(view, elements_with_cell(1, x)), [len(numbers)] + numbers)

    def test_any_number_may_be_asked_for(self):
        for x in (-GREATEST, -1, 1000, GREATEST, 2 ** 32, 2 ** 32 + 9):
            self.assertEqual(answer_for((9, [4, 1]), elements_with_cell(1, x)), [0])

    def test_all_elements_in_one_cell(self):
        for axes, count in (([400, 0], 400), ([20, 0, 20, 0], 400), ([1, 0], 1), ([], 1)):
            self.assertEqual(answer_for((9, axes), elements_with_cell(1, 9)), [count] + list(range(count)))

    def test_great_cells(self):
        setup = [set_length(GREATEST), set_view(1, GREATEST - 1, [2, 2 - GREATEST, 2, -1])]
        found = ask(*setup, *[elements_with_cell(1, x) for x in (GREATEST - 1, GREATEST - 2, 1, 0, 2)])[2:]
        self.assertEqual(found, [[1, 0], [1, 1], [1, 2], [1, 3], [0]])


class CellStatistics(unittest.TestCase):
    def test_ordinary_views(self):
        for view, answer in (
            ((0, [3, 2, 4, 3]), [12, 1, 0]),
            ((9, [3, -1, 3, -1]), [5, 3, 7]),
            ((7, [400, 0]), [1, 400, 7]),
            ((7, []), [1, 1, 7]),
            ((29, [5, -6]), [5, 1, 5]),
        ):
            self.assertEqual(answer_for(view, cell_statistics(1)), answer)

    def test_the_smallest_cell_among_several_with_the_greatest_number(self):
        for view, answer in (
            # Three times each 6, 8, 10 and 12, fewer times all else, in either direction.
            ((2, [3, 2, 6, 2]), [8, 3, 6]),
            ((16, [3, -2, 6, -2]), [8, 3, 6]),
            ((16, [6, -2, 3, -2]), [8, 3, 6]),
            ((10, [2, 0, 4, -3]), [4, 2, 1]),
            ((0, [2, 50, 2, 3, 2, 3]), [6, 2, 3]),
            ((50, [2, -50, 2, 3, 2, 3]), [6, 2, 3]),
        ):
            self.assertEqual(reference.statistics_answer(view), answer)
            self.assertEqual(answer_for(view, cell_statistics(1)), answer)


class OfTwoViews(unittest.TestCase):
    def test_shared_statistics_counts_cells_once_and_pairs_all(self):
        for p, q, answer in (
            ((0, [3, 10, 4, 2]), (0, [3, 2, 4, 3]), [5, 5]),
            ((9, [3, -1, 3, -1]), (6, [2, 0, 2, 1]), [2, 2 * 2 + 2 * 3]),
            ((9, [400, 0]), (9, [400, 0]), [1, 160000]),
            ((0, [5, 2]), (1, [5, 2]), [0, 0]),
            ((4, []), (4, []), [1, 1]),
            ((4, []), (5, []), [0, 0]),
        ):
            self.assertEqual(answer_for_two(p, q, shared_statistics(1, 2)), answer)
            self.assertEqual(answer_for_two(p, q, shared_statistics(2, 1)), answer)

    def test_first_shared_pair_takes_the_first_of_the_first_view(self):
        for p, q, answer in (
            ((0, [10, 1]), (5, [5, -1]), [1, 1, 4]),
            ((5, [5, -1]), (0, [10, 1]), [1, 0, 5]),
            # Of several elements with this cell the first one, on either side.
            ((9, [3, 0, 2, 1]), (11, [4, -1, 2, 0]), [1, 0, 4]),
            ((0, [4, 3, 2, 0]), (12, [3, -3, 3, 3]), [1, 4, 6]),
            ((0, [5, 2]), (1, [5, 2]), [0]),
            ((7, []), (3, [5, 2]), [1, 0, 2]),
        ):
            self.assertEqual(reference.first_pair_answer(p, q), answer, (p, q))
            self.assertEqual(answer_for_two(p, q, first_shared_pair(1, 2)), answer, (p, q))

    def test_is_covered_is_not_the_same_both_ways(self):
        for p, q, answer in (
            ((0, [5, 2]), (0, [10, 1]), [1]),
            ((0, [10, 1]), (0, [5, 2]), [0, 1]),
            ((0, [10, 1]), (9, [10, -1]), [1]),
            ((8, [5, -2]), (0, [4, 2]), [0, 0]),
            ((0, [5, 2]), (0, [4, 2]), [0, 4]),
            ((3, [2, 0, 3, 0]), (3, []), [1]),
            ((3, [2, 0, 3, 1]), (3, [2, 1]), [0, 2]),
        ):
            self.assertEqual(answer_for_two(p, q, is_covered(1, 2)), answer, (p, q))


class FirstRepeated(unittest.TestCase):
    def test_the_first_element_and_the_next_one_with_its_cell(self):
        for view, answer in (
            ((0, [3, 2, 4, 3]), [0]),
            ((9, [3, -1, 3, -1]), [1, 1, 3]),
            ((9, [5, 0]), [1, 0, 1]),
            ((9, [3, 0, 2, 1]), [1, 0, 2]),
            # The cells are 2, 3, 0, 1, 3, 4, 1, 2: the first element comes again last.
            ((2, [2, 1, 2, -2, 2, 1]), [1, 0, 7]),
            # The cells are 0, 3, 6, 2, 5, 8, 6, 9, 12, 8, 11, 14.
            ((0, [2, 6, 2, 2, 3, 3]), [1, 2, 6]),
            ((0, [2, 0, 2, 9, 2, 0]), [1, 0, 1]),
            ((7, []), [0]),
            ((7, [1, 0]), [0]),
        ):
            self.assertEqual(reference.first_repeated_answer(view), answer, view)
            self.assertEqual(answer_for(view, first_repeated(1)), answer, view)


class SameRegisterTwice(unittest.TestCase):
    def test_a_view_and_itself(self):
        for view, answers in (
            ((0, [3, 2, 4, 3]), [[12, 12], [1, 0, 0], [1]]),
            ((9, [3, -1, 3, -1]), [[5, 1 + 4 + 9 + 4 + 1], [1, 0, 0], [1]]),
            ((7, []), [[1, 1], [1, 0, 0], [1]]),
            ((0, [4, 0, 0, 0]), [[0, 0], [0], [1]]),
        ):
            found = ask(*stored(1000, view), *[call(1, 1) for call in OF_TWO_VIEWS])[2:]
            self.assertEqual(found, answers)


class EmptyViews(unittest.TestCase):
    EMPTY = ((0, [0, 0]), (0, [4, 0, 0, 0]), (0, [GREATEST, 0, 0, 0, GREATEST, 0]), (0, [0, 0] * 6))

    def test_of_one_view(self):
        for view in self.EMPTY:
            calls = [elements_with_cell(1, 0), elements_with_cell(1, 5), cell_statistics(1), first_repeated(1)]
            self.assertEqual(ask(*stored(1000, view), *calls)[2:], [[0], [0], [0, 0, 0], [0]])

    def test_on_either_side(self):
        for view in self.EMPTY:
            for other in ((0, [400, 1]), (0, []), (3, [2, 0])):
                setup = stored(1000, view, other)
                self.assertEqual(ask(*setup, *[call(1, 2) for call in OF_TWO_VIEWS])[3:], [[0, 0], [0], [1]])
                self.assertEqual(ask(*setup, *[call(2, 1) for call in OF_TWO_VIEWS])[3:], [[0, 0], [0], [0, 0]])
            for other in self.EMPTY:
                setup = stored(1000, view, other)
                self.assertEqual(ask(*setup, *[call(1, 2) for call in OF_TWO_VIEWS])[3:], [[0, 0], [0], [1]])

    def test_a_new_object(self):
        found = ask(
            elements_with_cell(0, 0), cell_statistics(1), shared_statistics(2, 3),
            first_shared_pair(4, 5), first_repeated(0), is_covered(1, 2),
        )
        self.assertEqual(found, [[0], [0, 0, 0], [0, 0], [0], [0], [1]])

    def test_arrays_of_one_cell(self):
        found = ask(
            set_length(1), elements_with_cell(0, 0), cell_statistics(1), shared_statistics(2, 3),
            first_shared_pair(4, 5), first_repeated(0), is_covered(1, 2),
        )
        self.assertEqual(found[1:], [[1, 0], [1, 1, 0], [1, 1], [1, 0, 0], [0], [1]])


class AgainstEnumeration(unittest.TestCase):
    def compare_single(self, views, array):
        for view in views:
            listed = reference.cells(view)
            asked = sorted(set(listed))[:40] + [min(listed) - 1, max(listed) + 1]
            calls = [cell_statistics(1), first_repeated(1)] + [elements_with_cell(1, x) for x in asked]
            found = ask(*stored(array, view), *calls)[2:]
            wanted = [reference.statistics_answer(view), reference.first_repeated_answer(view)]
            self.assertEqual(found, wanted + [reference.elements_answer(view, x) for x in asked], view)

    def compare_pairs(self, views, array):
        kinds = set()
        for p, q in zip(views[0::2], views[1::2]):
            calls = [call(1, 2) for call in OF_TWO_VIEWS] + [call(2, 1) for call in OF_TWO_VIEWS]
            found = ask(*stored(array, p, q), *calls)[3:]
            wanted = []
            for left, right in ((p, q), (q, p)):
                wanted.append(reference.shared_statistics_answer(left, right))
                wanted.append(reference.first_pair_answer(left, right))
                wanted.append(reference.covered_answer(left, right))
            self.assertEqual(found, wanted, (p, q))
            kinds.add((found[1][0], found[2][0]))
        self.assertEqual(sorted(kinds), [(0, 0), (1, 0), (1, 1)])

    def test_small_views(self):
        self.compare_single(small_views(21, 400, 0, 4), ARRAY)

    def test_pairs_of_small_views(self):
        self.compare_pairs(small_views(22, 1200, 0, 3), ARRAY)

    def test_views_of_up_to_400_elements(self):
        self.compare_single(middling_views(23, 60, 600), 600)

    def test_pairs_of_views_of_up_to_400_elements(self):
        self.compare_pairs(middling_views(24, 200, 300), 300)


if __name__ == "__main__":
    unittest.main()
