"""set_length, set_view, get_view and cell_at."""

import unittest

from tests.reference import cell
from tests.reference import indices
from tests.support import GREATEST
from tests.support import NO_REGISTER
from tests.support import ask
from tests.support import cell_at
from tests.support import get_view
from tests.support import last
from tests.support import set_length
from tests.support import set_view

ALL_VIEWS = [get_view(p) for p in range(6)]


class NewObject(unittest.TestCase):
    def test_every_register_holds_the_whole_view_of_an_empty_array(self):
        self.assertEqual(ask(*ALL_VIEWS), [[0, 2, 0, 0]] * 6)


class SetLength(unittest.TestCase):
    def test_answers_the_length(self):
        for n in (0, 1, 2, 30, GREATEST - 1, GREATEST):
            self.assertEqual(ask(set_length(n)), [[n]])

    def test_every_register_holds_the_whole_view_in_canonical_form(self):
        for n, axis in ((0, [0, 0]), (1, [1, 0]), (2, [2, 1]), (30, [30, 1]), (GREATEST, [GREATEST, 1])):
            setup = [set_length(9)] + [set_view(r, r, [2, 1, 2, 1]) for r in range(6)]
            self.assertEqual(ask(*setup, set_length(n), *ALL_VIEWS)[8:], [[0, 2] + axis] * 6)

    def test_refuses_a_length_out_of_range(self):
        for n in (-GREATEST, -1):
            self.assertEqual(ask(set_length(n)), [[-11]])

    def test_a_refused_length_leaves_all_as_it_was(self):
        found = ask(set_length(9), set_view(2, 8, []), set_length(-1), *ALL_VIEWS, set_view(0, 8, []), set_view(0, 9, []))
        whole = [0, 2, 9, 1]
        self.assertEqual(found, [[9], [1], [-11], whole, whole, [8, 0], whole, whole, whole, [1], [-24]])


class SetView(unittest.TestCase):
    def test_answers_the_size(self):
        for offset, axes, size in (
            (0, [], 1),
            (29, [], 1),
            (0, [3, 10, 4, 2], 12),
            (29, [5, -6], 5),
            (14, [2, 0, 3, -7, 2, 15], 12),
            (5, [0, 3], 0),
            (5, [4, 2, 0, 3, 5, 1], 0),
            (0, [2, 1, 2, 2, 2, 4, 1, 8, 2, 0, 3, 1], 48),
        ):
            self.assertEqual(ask(set_length(30), set_view(3, offset, axes))[1], [size])

    def test_each_register_keeps_its_own_view(self):
        stored = [set_view(r, 10 + r, [2, r + 1]) for r in range(6)]
        found = ask(set_length(30), *stored, *ALL_VIEWS)[7:]
        self.assertEqual(found, [[10 + r, 2, 2, r + 1] for r in range(6)])

    def test_a_view_may_be_stored_again(self):
        self.assertEqual(last(set_length(30), set_view(1, 3, [2, 5]), set_view(1, 4, []), get_view(1)), [4, 0])

    def test_refuses_what_is_no_register_before_all_else(self):
        for r in NO_REGISTER:
            for axes in ([], [3], [-1, 1], [GREATEST, 0, 2, 0], [9, 1]):
                self.assertEqual(last(set_length(5), set_view(r, 0, axes)), [-10])

    def test_refuses_axes_that_are_not_at_most_six_pairs(self):
        for axes in ([1], [1, 0, 1], [1, 0] * 6 + [1], [1, 0] * 7, [1, 0] * 10, [-1], [-1, 0] * 7, [GREATEST] * 11):
            self.assertEqual(last(set_length(5), set_view(0, 0, axes)), [-21])
        self.assertEqual(last(set_length(5), set_view(0, 0, [1, 0] * 6)), [1])

    def test_refuses_a_length_out_of_range(self):
        for axes in ([-1, 0], [-GREATEST, 1], [0, 0, -1, 0], [GREATEST, 0, 2, 0, -1, 1], [9, 1, -2, 1]):
            self.assertEqual(last(set_length(5), set_view(0, 0, axes)), [-22])

    def test_refuses_a_view_that_is_too_large(self):
        root = 10 ** 9
        for axes in (
            [GREATEST, 0, 2, 0],
            [root, 0, root + 1, 0],
            [GREATEST, 0] * 6,
            [2 ** 32, 0, 2 ** 32, 0],
            [GREATEST, 9, 2, 9],
            # Just one element more than there may be.
            [10 ** 6 + 1, 0, 10 ** 12 - 10 ** 6 + 1, 0],
        ):
            self.assertEqual(last(set_length(5), set_view(0, 0, axes)), [-23])

    def test_takes_a_view_of_the_greatest_size(self):
        root = 10 ** 9
        for axes in ([GREATEST, 0], [root, 0, root, 0], [GREATEST, 0, 1, 5]):
            self.assertEqual(last(set_length(1), set_view(0, 0, axes)), [GREATEST])
        whole = ask(set_length(GREATEST), set_view(0, 0, [GREATEST, 1]), get_view(0))
        self.assertEqual(whole[1:], [[GREATEST], [0, 2, GREATEST, 1]])

    def test_a_length_of_zero_makes_the_size_zero_whatever_the_others(self):
        for axes in ([GREATEST, 7, GREATEST, 7, 0, 7], [0, 1, GREATEST, 1, GREATEST, 1]):
            self.assertEqual(last(set_length(5), set_view(0, 0, axes)), [0])

    def test_refuses_a_cell_outside_the_array(self):
        for offset, axes in (
            (-1, []),
            (30, []),
            (GREATEST, []),
            (-GREATEST, [1, 5]),
            (0, [4, 10]),
            (0, [31, 1]),
            (5, [2, -6]),
            (29, [5, -6, 2, -6]),
            (15, [2, 15]),
            (0, [2, 20, 2, 10]),
            (0, [2, -1, 2, 1]),
            (29, [2, -1, 2, 1]),
            (-1, [2, 1]),
        ):
            self.assertEqual(last(set_length(30), set_view(0, offset, axes)), [-24])

    def test_takes_views_that_reach_the_ends_of_the_array(self):
        for offset, axes in ((0, [30, 1]), (29, [30, -1]), (6, [2, -6]), (14, [2, 15]), (15, [2, -15, 2, 14]), (29, [])):
            self.assertEqual(last(set_length(30), set_view(0, offset, axes))[0] > 0, True)

    def test_bounds_of_cells_may_be_far_outside(self):
        for offset, axes in (
            (0, [GREATEST, GREATEST]),
            (GREATEST - 1, [GREATEST, -GREATEST]),
            (0, [2 ** 32 + 1, 2 ** 32]),
            (GREATEST, []),
        ):
            self.assertEqual(last(set_length(GREATEST), set_view(0, offset, axes)), [-24])
        for offset, axes in (
            (GREATEST - 1, [GREATEST, -1]),
            (0, [2, GREATEST - 1]),
            (GREATEST - 1, [2, 1 - GREATEST]),
            (0, [10 ** 9, 10 ** 9]),
        ):
            self.assertNotEqual(last(set_length(GREATEST), set_view(0, offset, axes)), [-24])

    def test_an_empty_view_has_no_cell_outside(self):
        for n in (0, 5):
            self.assertEqual(last(set_length(n), set_view(0, -GREATEST, [0, GREATEST, 4, 9])), [0])

    def test_an_array_of_length_zero_takes_empty_views_alone(self):
        self.assertEqual(ask(set_view(0, 0, []), set_view(0, 0, [1, 1]), set_view(0, 3, [0, 1])), [[-24], [-24], [0]])

    def test_a_refused_view_leaves_all_as_it_was(self):
        for refused, code in (
            (set_view(6, 0, []), -10),
            (set_view(2, 0, [1]), -21),
            (set_view(2, 0, [-1, 1]), -22),
            (set_view(2, 0, [GREATEST, 0, 2, 0]), -23),
            (set_view(2, 9, []), -24),
        ):
            found = ask(set_length(9), set_view(2, 8, [3, -1]), refused, *ALL_VIEWS)
            whole = [0, 2, 9, 1]
            self.assertEqual(found[2:], [[code], whole, whole, [8, 2, 3, -1], whole, whole, whole])


class GetView(unittest.TestCase):
    def test_answers_offset_and_axes(self):
        for offset, axes in ((29, [5, -6]), (7, []), (0, [3, 10, 4, 2]), (9, [2, -9, 2, 20, 3, 0])):
            self.assertEqual(last(set_length(30), set_view(4, offset, axes), get_view(4)), [offset, len(axes)] + axes)

    def test_answers_the_canonical_form(self):
        for offset, axes, form in (
            (7, [1, 9], [7, 2, 1, 0]),
            (7, [1, GREATEST, 2, 3, 1, -GREATEST], [7, 6, 1, 0, 2, 3, 1, 0]),
            (7, [0, 9], [0, 2, 0, 0]),
            (7, [2, 3, 0, 9, 1, 5], [0, 6, 2, 0, 0, 0, 1, 0]),
            (-7, [2, 3, 4, 1, 0, 0], [0, 6, 2, 0, 4, 0, 0, 0]),
            (7, [2, 0], [7, 2, 2, 0]),
        ):
            self.assertEqual(last(set_length(30), set_view(5, offset, axes), get_view(5)), form)

    def test_a_view_given_back_may_be_stored_again(self):
        first = last(set_length(30), set_view(0, 7, [1, 9, 3, -2]), get_view(0))
        again = last(set_length(30), set_view(1, first[0], first[2:]), get_view(1))
        self.assertEqual(again, first)

    def test_refuses_what_is_no_register(self):
        for p in NO_REGISTER:
            self.assertEqual(last(set_length(30), get_view(p)), [-10])


class CellAt(unittest.TestCase):
    def test_answers_the_cell_of_every_index(self):
        for view in ((0, [3, 10, 4, 2]), (29, [5, -6]), (14, [2, 0, 3, -7, 1, 3, 2, 15]), (3, [])):
            calls = [cell_at(1, index) for index in indices(view)]
            found = ask(set_length(30), set_view(1, *view), *calls)[2:]
            self.assertEqual(found, [[cell(view, index)] for index in indices(view)])

    def test_great_cells(self):
        root = 10 ** 9
        setup = [set_length(GREATEST), set_view(0, GREATEST - 1, [root, -root, root, -1])]
        self.assertEqual(last(*setup, cell_at(0, [root - 1, root - 1])), [0])
        self.assertEqual(last(*setup, cell_at(0, [root - 1, 0])), [root - 1])
        self.assertEqual(last(set_length(GREATEST), cell_at(5, [GREATEST - 1])), [GREATEST - 1])

    def test_the_cell_of_a_whole_view_is_its_index(self):
        self.assertEqual(ask(set_length(30), cell_at(0, [0]), cell_at(3, [29])), [[30], [0], [29]])
        self.assertEqual(ask(set_length(1), cell_at(0, [0])), [[1], [0]])

    def test_refuses_what_is_no_register_before_all_else(self):
        for p in NO_REGISTER:
            for index in ([], [0], [-1], [0] * 20):
                self.assertEqual(last(set_length(30), cell_at(p, index)), [-10])

    def test_refuses_what_is_no_index(self):
        setup = [set_length(30), set_view(1, 0, [3, 10, 4, 2]), set_view(2, 7, [])]
        for index in ([], [0], [0, 0, 0], [3, 0], [0, 4], [-1, 0], [0, -1], [GREATEST, 0], [0, -GREATEST], [0] * 20):
            self.assertEqual(last(*setup, cell_at(1, index)), [-12])
        self.assertEqual(last(*setup, cell_at(2, [0])), [-12])
        self.assertEqual(last(*setup, cell_at(2, [])), [7])

    def test_an_empty_view_has_no_index(self):
        setup = [set_length(30), set_view(1, 0, [3, 10, 0, 2])]
        for index in ([], [0], [0, 0], [0, -1], [2, 0]):
            self.assertEqual(last(*setup, cell_at(1, index)), [-12])
        self.assertEqual(ask(cell_at(0, [0])), [[-12]])

    def test_a_refused_index_leaves_the_view_as_it_was(self):
        found = ask(set_length(30), set_view(1, 29, [5, -6]), cell_at(1, [5]), cell_at(1, [4]), get_view(1))
        self.assertEqual(found[2:], [[-12], [5], [29, 2, 5, -6]])


if __name__ == "__main__":
    unittest.main()
