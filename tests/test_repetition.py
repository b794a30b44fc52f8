"""find_repetition and prove_distinct, against the terms and against enumeration."""

import unittest

from tests import reference
from tests.samples import ARRAY
from tests.samples import balanced
from tests.samples import small_views
from tests.samples import stored
from tests.samples import trees
from tests.support import GREATEST
from tests.support import NO_REGISTER
from tests.support import ask
from tests.support import find_repetition
from tests.support import find_shared
from tests.support import get_view
from tests.support import last
from tests.support import prove_distinct
from tests.support import set_length
from tests.support import set_view


def asked_of(view, array, call):
    found = ask(*stored(array, view), call)
    assert found[1][0] >= 0, "the view does not fit into the array"
    return found[2]


def repetition(view, array=ARRAY):
    return asked_of(view, array, find_repetition(1))


def distinct(view, certificates, array=ARRAY):
    return asked_of(view, array, prove_distinct(1, certificates))


def shapes(most, axes_left):
    """Return all lists of lengths from 2 on whose product is at most so much."""
    found = [[]]
    if axes_left > 0:
        for length in range(2, most + 1):
            found += [[length] + rest for rest in shapes(most // length, axes_left - 1)]
    return found


class Refusals(unittest.TestCase):
    def test_find_repetition_refuses_what_is_no_register(self):
        for wrong in NO_REGISTER:
            self.assertEqual(last(set_length(9), find_repetition(wrong)), [-10])

    def test_prove_distinct_refuses_what_is_no_register_whatever_the_list(self):
        for wrong in NO_REGISTER:
            for certificates in ([], [1], [9], [0], [1, 1], [-1] * 20):
                self.assertEqual(last(set_length(9), prove_distinct(wrong, certificates)), [-10])

    def test_all_registers_are_taken(self):
        for number in range(6):
            found = ask(set_length(9), find_repetition(number), prove_distinct(number, [1]))
            self.assertEqual(found[1:], [[0, 1, 1], [1]])


class WithoutAxesToProcess(unittest.TestCase):
    VIEWS = (
        (0, [0, 0]),
        (0, [0, 0, 0, 0]),
        (0, [4, 0, 0, 0, 3, 0]),
        (0, [GREATEST, 0, 0, 0, GREATEST, 0]),
        (7, []),
        (7, [1, 0]),
        (7, [1, 0] * 6),
    )

    def test_find_repetition_answers_an_empty_list(self):
        for view in self.VIEWS:
            self.assertEqual(repetition(view), [0, 0], view)

    def test_prove_distinct_takes_the_empty_list_alone(self):
        for view in self.VIEWS:
            self.assertEqual(distinct(view, []), [1], view)
            for certificates in ([1], [2], [3], [0, 1, 1], [1, 1], [0], [4], [-1], [GREATEST], [0] * 2500):
                self.assertEqual(distinct(view, certificates), [0], (view, certificates))

    def test_a_new_object(self):
        self.assertEqual(ask(find_repetition(0), prove_distinct(5, []), prove_distinct(5, [1])), [[0, 0], [1], [0]])

    def test_strides_given_with_an_empty_view_or_a_short_axis_do_not_count(self):
        for axes in ([0, 5, 3, 0], [1, 9, 1, -9]):
            found = ask(set_length(30), set_view(1, 4, axes), find_repetition(1), prove_distinct(1, []))
            self.assertEqual(found[2:], [[0, 0], [1]])


class FindRepetition(unittest.TestCase):
    def test_one_axis(self):
        for view, answer in (
            ((0, [5, 2]), [0, 1, 1]),
            ((29, [5, -6]), [0, 1, 1]),
            ((3, [5, 0]), [1, 1, 0, 1, 1]),
            ((3, [2, 0]), [1, 1, 0, 1, 1]),
            ((3, [2, 7]), [0, 1, 1]),
        ):
            self.assertEqual(repetition(view), answer, view)

    def test_one_certificate_for_each_axis_from_the_last_one(self):
        for view, answer in (
            ((0, [3, 10, 4, 2]), [0, 2, 1, 1]),
            ((0, [3, 2, 4, 3]), [0, 2, 1, 3]),
            # Three free variables from the first axis on: its certificate has several claims.
            ((0, [3, 15, 2, 6, 2, 10]), [0, 5, 1, 2, 0, 2, 1]),
        ):
            self.assertEqual(repetition(view), answer, view)
            self.assertEqual(repetition(view), reference.repetition_answer(view), view)

    def test_axes_of_length_1_are_left_out_but_stand_in_the_indices(self):
        self.assertEqual(repetition((0, [1, 0, 3, 10, 1, 0, 4, 2, 1, 0])), [0, 2, 1, 1])
        self.assertEqual(repetition((5, [1, 0, 3, 2, 1, 0, 3, -1, 1, 0])), [1, 5, 0, 0, 0, 0, 0, 5, 0, 1, 0, 2, 0])
        self.assertEqual(repetition((5, [1, 0, 3, 0, 1, 0])), [1, 3, 0, 0, 0, 3, 0, 1, 0])

    def test_the_differences_of_the_least_solution(self):
        for view, first, second in (
            # A negative difference raises the first index, a positive one the second.
            ((0, [3, 2, 5, 1]), [0, 2], [1, 0]),
            ((9, [3, -2, 5, 1]), [0, 0], [1, 2]),
            ((0, [3, 3, 5, 2]), [0, 3], [2, 0]),
            ((0, [4, 5, 3, 4, 2, 1]), [0, 1, 1], [1, 0, 0]),
            ((8, [4, 5, 3, -4, 2, 1]), [0, 0, 1], [1, 1, 0]),
            # The least differences for the first axes, not the smallest ones in all.
            ((0, [2, 4, 3, 2, 5, 1]), [0, 0, 2], [0, 1, 0]),
            ((0, [2, 30, 2, 10, 3, 0]), [0, 0, 0], [0, 0, 1]),
            ((0, [2, 6, 4, 2, 4, 0]), [0, 0, 0], [0, 0, 1]),
            ((0, [2, 6, 3, 3, 2, 12]), [0, 2, 0], [1, 0, 0]),
            ((0, [2, 12, 4, 18, 3, 12]), [0, 2, 0], [1, 0, 2]),
            ((6, [2, 12, 3, 18, 3, 24]), [0, 2, 0], [1, 0, 1]),
        ):
            answer = repetition(view, 200)
            self.assertEqual(answer, [1, len(first)] + first + [len(second)] + second, view)
            self.assertEqual(reference.least_repetition(view), (first, second), view)

    def test_it_stops_at_the_first_equation_with_a_solution(self):
        for view, answer in (
            # In each of these two indices that differ at the first axis share a cell as well.
            ((0, [3, 0, 3, 0]), [1, 2, 0, 0, 2, 0, 1]),
            ((0, [4, 5, 3, 5, 2, 0]), [1, 3, 0, 0, 0, 3, 0, 0, 1]),
            ((0, [2, 4, 3, 2, 5, 1]), [1, 3, 0, 0, 2, 3, 0, 1, 0]),
        ):
            self.assertEqual(repetition(view), answer, view)
            target, variables = reference.repetition_variables(view, 0)
            self.assertIsNotNone(reference.least_solution(target, variables))

    def test_the_same_register_again(self):
        view = (0, [3, 2, 5, 1])
        self.assertEqual(ask(*stored(30, view), *[find_repetition(1)] * 3)[2:], [[1, 2, 0, 2, 2, 1, 0]] * 3)


class AgainstTheTerms(unittest.TestCase):
    def compare(self, views):
        kinds = set()
        for view in views:
            answer = repetition(view)
            self.assertEqual(answer, reference.repetition_answer(view), view)
            least = reference.least_repetition(view)
            self.assertEqual(answer[0], 0 if least is None else 1, view)
            kinds.add(answer[0])
            if least is None:
                self.assertEqual(distinct(view, answer[2:]), [1], view)
            else:
                self.assertEqual(answer, [1, len(least[0])] + least[0] + [len(least[1])] + least[1], view)
        self.assertEqual(sorted(kinds), [0, 1])

    def test_views_with_few_axes(self):
        self.compare(small_views(11, 900, 0, 2))

    def test_views_with_three_and_four_axes(self):
        self.compare(small_views(12, 500, 3, 4))

    def test_views_with_six_axes(self):
        self.compare(small_views(13, 40, 5, 6))

    def test_distinct_views_with_three_axes(self):
        views = []
        for strides in ((15, 6, 10), (10, 15, 6), (12, 4, 1), (1, 4, 12), (-12, 4, 1), (9, -3, 13), (21, 6, 14)):
            for lengths in ((2, 2, 2), (3, 2, 2), (2, 3, 2), (2, 2, 3), (3, 3, 2)):
                views.append((100, [number for pair in zip(lengths, strides) for number in pair]))
        claims = []
        for view in views:
            answer = repetition(view, 200)
            self.assertEqual(answer, reference.repetition_answer(view), view)
            if answer[0] == 0:
                claims += answer[2:]
                self.assertEqual(distinct(view, answer[2:], 200), [1], view)
        self.assertEqual(sorted(set(claims)), [0, 1, 2, 3])


class ProveDistinct(unittest.TestCase):
    # Distinct cells; from the first axis on, only the two-variable test tells so.
    VIEW = (0, [3, 2, 4, 3])

    def test_one_valid_certificate_for_each_axis(self):
        for certificates in ([1, 3], [0, 1, 1, 3], [1, 0, 2, 2], [0, 1, 2, 0, 2, 2]):
            self.assertEqual(distinct(self.VIEW, certificates), [1], certificates)

    def test_their_order_is_that_of_the_axes_from_the_last_one(self):
        self.assertEqual(distinct(self.VIEW, [3, 1]), [0])
        self.assertEqual(distinct((0, [4, 3, 3, 2]), [1, 3]), [1])
        self.assertEqual(distinct((0, [4, 3, 3, 2]), [3, 1]), [0])
        self.assertEqual(distinct((0, [2, 20, 3, 2, 4, 3]), [1, 3, 1]), [1])
        self.assertEqual(distinct((0, [2, 20, 3, 2, 4, 3]), [1, 1, 3]), [0])

    def test_too_few(self):
        for certificates in ([], [1], [3], [0, 1, 1]):
            self.assertEqual(distinct(self.VIEW, certificates), [0], certificates)

    def test_too_many(self):
        for certificates in ([1, 3, 1], [1, 1, 3], [1, 3, 3], [1, 3, 0, 1, 1], [1, 3, 1, 3]):
            self.assertEqual(distinct(self.VIEW, certificates), [0], certificates)

    def test_an_invalid_one(self):
        for certificates in ([1, 1], [1, 2], [2, 3], [1, 0, 1, 1], [0, 1, 3, 3], [0, 0, 0, 1, 1, 1, 1, 3]):
            self.assertEqual(distinct(self.VIEW, certificates), [0], certificates)

    def test_an_incomplete_one(self):
        for certificates in ([0], [1, 0], [1, 0, 3], [0, 1], [1, 3, 0], [1, 3, 0, 1], [0, 0, 1, 3]):
            self.assertEqual(distinct(self.VIEW, certificates), [0], certificates)

    def test_numbers_that_are_no_claim(self):
        for other in (-GREATEST, -10, -3, -1, 4, 5, 256, 2 ** 32 + 1, GREATEST):
            for certificates in ([other], [1, other], [other, 3], [1, 3, other], [other, 1, 3], [1, 0, other, 3]):
                self.assertEqual(distinct(self.VIEW, certificates), [0], certificates)

    def test_numbers_behind_the_last_certificate(self):
        for more in ([0], [1], [2], [3], [4], [-1], [0, 1], [GREATEST]):
            self.assertEqual(distinct(self.VIEW, [1, 3] + more), [0], more)

    def test_axes_of_length_1_need_none(self):
        view = (0, [1, 0, 3, 2, 1, 0, 4, 3, 1, 0])
        self.assertEqual(distinct(view, [1, 3]), [1])
        for certificates in ([1, 1, 3], [1, 1, 1, 3, 1], [1]):
            self.assertEqual(distinct(view, certificates), [0], certificates)

    def test_all_axes_need_one_even_where_find_repetition_stops_earlier(self):
        # From the second axis on there is a repetition, from the first one on there is none.
        view = (0, [2, 20, 3, 0])
        self.assertEqual(repetition(view), [1, 2, 0, 0, 2, 0, 1])
        self.assertEqual(last(*stored(30, (0, [2, 20])), prove_distinct(1, [1])), [1])
        for certificates in ([], [1], [2], [3], [1, 1], [2, 1], [3, 1], [0, 1, 1, 1], [1, 1, 1]):
            self.assertEqual(distinct(view, certificates), [0], certificates)
        # Here the first axis alone repeats cells, and both have valid claims else.
        view = (0, [2, 1, 3, 1])
        for certificates in ([1], [1, 1], [1, 2], [1, 3], [1, 0, 1, 1]):
            self.assertEqual(distinct(view, certificates), [0], certificates)

    def test_any_certificates_against_the_terms(self):
        single = [tree for splits in range(3) for tree in trees(splits)]
        pairs = [a + b for a in [[1], [2], [3], [0, 1, 1]] for b in single]
        kinds = set()
        for view in small_views(14, 60, 0, 3) + [self.VIEW, (0, [2, 30, 2, 1, 2, 2])]:
            lists = [[]] + single + pairs + [[1] + pair for pair in pairs[:40]]
            for start in range(0, len(lists), 250):
                part = lists[start:start + 250]
                found = ask(*stored(ARRAY, view), *[prove_distinct(1, one) for one in part])[2:]
                for certificates, answer in zip(part, found, strict=True):
                    self.assertEqual(answer, reference.distinct_answer(view, certificates), (view, certificates))
                    kinds.add(answer[0])
        self.assertEqual(sorted(kinds), [0, 1])

    def test_all_short_lists_against_the_terms(self):
        claims = (0, 1, 2, 3, 4, -1)
        lists = [[]]
        for width in range(4):
            lists += [one + [claim] for one in lists if len(one) == width for claim in claims]
        for view in ((0, [0, 0]), (5, [2, 3]), (0, [2, 0]), self.VIEW, (0, [2, 1, 2, 1])):
            for start in range(0, len(lists), 250):
                part = lists[start:start + 250]
                found = ask(*stored(ARRAY, view), *[prove_distinct(1, one) for one in part])[2:]
                for certificates, answer in zip(part, found, strict=True):
                    self.assertEqual(answer, reference.distinct_answer(view, certificates), (view, certificates))


class LongLists(unittest.TestCase):
    # Two axes of 10^9 cells each, without a repetition.
    ROOT = 10 ** 9
    VIEW = (0, [ROOT, ROOT, ROOT, 1])

    def check(self, certificates, answer):
        self.assertEqual(distinct(self.VIEW, certificates, GREATEST), [answer])

    def test_valid_lists_of_2500_numbers(self):
        self.check([1] + balanced(1249, 1), 1)
        self.check(balanced(1249, 1) + [1], 1)
        self.check(balanced(600, 1) + balanced(649, 1), 1)
        self.assertEqual(len(balanced(600, 1) + balanced(649, 1)), 2500)

    def test_the_same_with_one_claim_changed(self):
        for place in (0, 1, 700, 2499):
            valid = [1] + balanced(1249, 1)
            self.check(valid[:place] + [4] + valid[place + 1:], 0)
            self.check(valid[:place] + [2 if place else 3] + valid[place + 1:], 0)

    def test_as_deep_as_the_bounds_let_them_be(self):
        # The first variable of each equation has 10^9 - 1 values: at most 30 bisections.
        self.check([0] * 30 + [1] * 31 + [1], 1)
        self.check([0] * 31 + [1] * 32 + [1], 0)
        # A second variable has 2 * 10^9 - 1 values: at most 31 more.
        self.check([1] + [0] * 61 + [1] * 62, 1)
        self.check([1] + [0] * 62 + [1] * 63, 0)

    def test_nested_as_deep_as_the_limits_let_them_be(self):
        for certificates in (
            [0] * 2500,
            [0] * 1249 + [1] * 1251,
            [1] + [0] * 1249 + [1] * 1250,
            [0] * 1249 + [1] * 1250 + [1],
            [0, 1] * 1249 + [1, 1],
            [0, 1] * 1250,
            [0] * 1250 + [1] * 1250,
            [1] * 2500,
            [3] * 2499 + [4],
        ):
            self.assertEqual(len(certificates), 2500)
            self.check(certificates, 0)


class GreatNumbers(unittest.TestCase):
    def test_views_of_great_arrays(self):
        root = 10 ** 9
        million = 10 ** 6
        for view, answer in (
            ((0, [root, root, root, 1]), [0, 2, 1, 1]),
            ((0, [root, root - 1, root, 1]), [1, 2, 0, root - 1, 2, 1, 0]),
            ((GREATEST - 1, [root, 1 - root, root, -1]), [1, 2, 0, root - 1, 2, 1, 0]),
            ((root, [root, root - 1, root, -1]), [1, 2, 0, 0, 2, 1, root - 1]),
            ((0, [GREATEST, 1]), [0, 1, 1]),
            ((GREATEST - 1, [GREATEST, -1]), [0, 1, 1]),
            ((5, [GREATEST, 0]), [1, 1, 0, 1, 1]),
            ((0, [2, GREATEST - 1]), [0, 1, 1]),
            ((0, [million, 1000003, million, 1000001]), [0, 2, 1, 3]),
            ((0, [million, 1000001, million, 1000003]), [0, 2, 1, 3]),
            ((0, [million, 2 * 999983, million, 2 * 999979]), [1, 2, 0, 999983, 2, 999979, 0]),
        ):
            self.assertEqual(repetition(view, GREATEST), answer, view)
            if answer[0] == 0:
                self.assertEqual(distinct(view, answer[2:], GREATEST), [1], view)

    def test_six_axes_of_a_great_view(self):
        axes = []
        for place in range(6):
            axes += [1000, 1000 ** (5 - place)]
        self.assertEqual(repetition((0, axes), GREATEST), [0, 6] + [1] * 6)
        axes[0] = 999
        axes[11] = 2
        self.assertEqual(repetition((0, axes), GREATEST), [1, 6, 0, 0, 0, 0, 0, 500, 6, 0, 0, 0, 0, 1, 0])


class SearchLimit(unittest.TestCase):
    LENGTH = 10 ** 6

    def comb(self, length, first_stride, front=()):
        """Return a view whose second axis decides, since the later ones add multiples of 2000."""
        return (0, [*front, 2, first_stride, length, 1, 10, 2000, 10, 20000])

    def boxes(self, view):
        """Return how many boxes each search examines if it runs alone."""
        axes = reference.repetition_axes(view)
        return [reference.examined(*reference.repetition_variables(view, axis)) for axis in axes]

    def check(self, view, boxes, answer):
        self.assertEqual(self.boxes(view), boxes)
        found = repetition(view, self.LENGTH)
        self.assertEqual(found[:len(answer)], answer)
        self.assertEqual(found, reference.repetition_answer(view))
        return found

    def test_2000_boxes_in_all_are_examined(self):
        view = self.comb(334, 1000)
        found = self.check(view, [1, 1, 665, 1333], [0, 2000])
        self.assertEqual(len(found), 2002)
        self.assertEqual(distinct(view, found[2:], self.LENGTH), [1])
        self.assertEqual(distinct(view, found[2:-1], self.LENGTH), [0])
        self.assertEqual(distinct(view, found[2:] + [1], self.LENGTH), [0])

    def test_more_boxes_in_all_are_not(self):
        self.check(self.comb(335, 1000), [1, 1, 667, 1337], [-30])
        self.check(self.comb(400, 1000), [1, 1, 797, 1597], [-30])

    def test_one_box_more_for_a_further_axis_is_not(self):
        self.check(self.comb(334, 1000, (2, 500000)), [1, 1, 665, 1333, 1], [-30])

    def test_a_repetition_in_the_last_box_is_found(self):
        view = self.comb(334, 1667)
        self.check(view, [1, 1, 665, 1333], [1, 4, 0, 0, 1, 0, 4, 1, 333, 0, 0])

    def test_a_repetition_one_box_further_is_not(self):
        self.check(self.comb(335, 1670), [1, 1, 667, 1332], [-30])

    def test_a_single_search_may_exceed_it(self):
        # Two boxes for the later axes, then two less one for each value of the first variable.
        for length, answer in ((1000, [0, 1999]), (1001, [-30])):
            found = repetition((0, [length, 1, 10, 2000, 10, 20000]), self.LENGTH)
            self.assertEqual(found[:2], answer)

    def test_each_call_counts_anew(self):
        views = [self.comb(334, 1000), self.comb(400, 1000), self.comb(334, 1667)]
        calls = [find_repetition(1), find_repetition(2), find_repetition(3), find_shared(1, 1)] * 3
        found = ask(*stored(self.LENGTH, *views), *calls)[4:]
        self.assertEqual([answer[0] for answer in found], [0, -30, 1, 1] * 3)

    def test_a_failed_search_leaves_the_view_as_it_was(self):
        view = self.comb(400, 1000)
        calls = [find_repetition(1), get_view(1), get_view(0), find_repetition(1), find_repetition(0)]
        found = ask(*stored(self.LENGTH, view), *calls)[2:]
        self.assertEqual(found, [[-30], [0, 8] + view[1], [0, 2, self.LENGTH, 1], [-30], [0, 1, 1]])

    def test_no_view_of_at_most_100_elements_runs_into_it(self):
        all_shapes = shapes(100, 6)
        self.assertIn([100], all_shapes)
        self.assertIn([2] * 6, all_shapes)
        setup = [set_length(GREATEST)]
        views = []
        for shape in all_shapes:
            # Strides that leave the search no other way than down to the last two axes.
            for strides in ((1, 7, 60, 5000, 5000, 15000), (3, -5, 2000, 30, -6000, 18000)):
                strides = [stride * 2 + 1 for stride in strides[:max(0, len(shape) - 2)]]
                strides += [10 ** 4, 3 * 10 ** 5][:len(shape)]
                views.append((10 ** 9, [number for pair in zip(shape, strides) for number in pair]))
        most = 0
        for start in range(0, len(views), 140):
            part = views[start:start + 140]
            calls = [call for view in part for call in (set_view(1, *view), find_repetition(1))]
            for view, answer in zip(part, ask(*setup, *calls)[2::2], strict=True):
                self.assertIn(answer[0], (0, 1), view)
                most = max(most, answer[1] if answer[0] == 0 else 0)
        # Otherwise the views would have been too easy.
        self.assertGreater(most, 60)


if __name__ == "__main__":
    unittest.main()
