"""find_shared and prove_disjoint, against the terms and against enumeration."""

import unittest

from tests import reference
from tests.reference import shared_answer
from tests.reference import shared_variables
from tests.samples import ARRAY
from tests.samples import balanced
from tests.samples import small_views
from tests.samples import stored
from tests.support import GREATEST
from tests.support import NO_REGISTER
from tests.support import ask
from tests.support import find_shared
from tests.support import get_view
from tests.support import last
from tests.support import prove_disjoint
from tests.support import set_length
from tests.support import set_view


class Refusals(unittest.TestCase):
    def test_find_shared_refuses_what_is_no_register(self):
        for wrong in NO_REGISTER:
            self.assertEqual(last(set_length(9), find_shared(wrong, 0)), [-10])
            self.assertEqual(last(set_length(9), find_shared(0, wrong)), [-10])
            self.assertEqual(last(set_length(9), find_shared(wrong, wrong)), [-10])

    def test_prove_disjoint_refuses_what_is_no_register_before_all_else(self):
        for wrong in NO_REGISTER:
            for certificate in ([], [1], [9], [1, 1]):
                self.assertEqual(last(set_length(9), prove_disjoint(wrong, 0, certificate)), [-10])
                self.assertEqual(last(set_length(9), prove_disjoint(0, wrong, certificate)), [-10])

    def test_prove_disjoint_refuses_what_is_not_one_certificate(self):
        for certificate in (
            [], [0], [0, 1], [4], [-1], [GREATEST], [1, 1], [2, 0], [0, 1, 1, 1], [0, 1, 4],
            [0] * 2500, [0] * 1249 + [1] * 1251, [0, 1] * 1250,
        ):
            self.assertEqual(last(set_length(9), prove_disjoint(0, 1, certificate)), [-33])
            self.assertEqual(ask(prove_disjoint(0, 1, certificate)), [[-33]])

    def test_all_registers_are_taken(self):
        for number in range(6):
            self.assertEqual(last(set_length(9), find_shared(number, 5 - number)), [1, 1, 0, 1, 0])
            self.assertEqual(last(set_length(9), prove_disjoint(number, 5 - number, [1])), [0])


class Edges(unittest.TestCase):
    def test_a_view_and_itself(self):
        setup = [set_length(30), set_view(1, 29, [5, -6]), set_view(2, 7, []), set_view(3, 7, [0, 1])]
        found = ask(*setup, find_shared(1, 1), find_shared(2, 2), find_shared(3, 3))[4:]
        self.assertEqual(found, [[1, 1, 0, 1, 0], [1, 0, 0], [0, 1, 1]])

    def test_views_without_axes(self):
        setup = [set_length(30), set_view(1, 7, []), set_view(2, 8, []), set_view(3, 6, [3, 1]), set_view(4, 7, [])]
        found = ask(*setup, find_shared(1, 2), find_shared(1, 4), find_shared(1, 3), find_shared(3, 2))[5:]
        self.assertEqual(found, [[0, 1, 1], [1, 0, 0], [1, 0, 1, 1], [1, 1, 2, 0]])

    def test_axes_of_length_1_stand_in_the_indices(self):
        found = last(*stored(30, (4, [1, 9, 3, 2, 1, 9]), (8, [1, 5])), find_shared(1, 2))
        self.assertEqual(found, [1, 3, 0, 2, 0, 1, 0])

    def test_an_empty_view_shares_no_cell(self):
        for empty in ([0, 1], [4, 1, 0, 2], [0, 0, 0, 0]):
            setup = stored(30, (5, empty), (29, [5, -6, 2, 0]))
            self.assertEqual(ask(*setup, find_shared(1, 2), find_shared(2, 1))[3:], [[0, 1, 1], [0, 1, 1]])
        self.assertEqual(ask(find_shared(0, 5), prove_disjoint(0, 5, [1])), [[0, 1, 1], [1]])

    def test_claims_for_empty_views(self):
        # The second view leaves one free variable to bisect, the third one two.
        setup = stored(30, (0, [0, 1]), (3, [4, 4])) + [set_view(3, 3, [2, 4, 2, 8]), set_view(4, 4, [2, 4, 2, 8])]
        cases = (
            (1, 2, [1], 1), (2, 1, [1], 1), (1, 2, [2], 1), (1, 2, [3], 0), (1, 2, [0, 1, 1], 1),
            (1, 2, [0, 2, 1], 1), (1, 2, [0, 0, 1, 1, 0, 1, 1], 1), (1, 2, [0, 0, 0, 1, 1, 1, 1], 0),
            (1, 1, [1], 1), (1, 1, [2], 0), (1, 1, [3], 0), (1, 1, [0, 1, 1], 0),
            (1, 3, [3], 0), (1, 3, [2], 1), (1, 4, [3], 1), (1, 4, [2], 0), (1, 4, [1], 1),
        )
        for p, q, certificate, valid in cases:
            self.assertEqual(last(*setup, prove_disjoint(p, q, certificate)), [valid], (p, q, certificate))

    def test_arrays_of_lengths_0_and_1(self):
        self.assertEqual(ask(set_length(0), find_shared(0, 1)), [[0], [0, 1, 1]])
        self.assertEqual(ask(set_length(1), find_shared(0, 1)), [[1], [1, 1, 0, 1, 0]])

    def test_each_claim_proves_views_disjoint(self):
        pairs = (
            ((0, [5, 1]), (5, [5, 1]), [1]),
            ((0, [9, 2]), (1, [9, 2]), [2]),
            ((0, [3, 3]), (2, [2, 5]), [3]),
            ((0, [2, 6]), (1, [2, 10, 2, 15]), [0, 1, 3]),
        )
        for p, q, certificate in pairs:
            found = last(*stored(60, p, q), find_shared(1, 2))
            self.assertEqual(found, shared_answer(p, q))
            self.assertEqual(last(*stored(60, p, q), prove_disjoint(1, 2, found[2:])), [1])
            self.assertEqual(found, [0, len(certificate)] + certificate)


class AgainstTheTerms(unittest.TestCase):
    def compare(self, views):
        kinds = set()
        for p, q in zip(views[0::2], views[1::2]):
            found = last(*stored(ARRAY, p, q), find_shared(1, 2))
            self.assertEqual(found, shared_answer(p, q), (p, q))
            pair = reference.least_shared(p, q)
            self.assertEqual(found[0], 0 if pair is None else 1, (p, q))
            kinds.add(found[0])
            if pair is not None:
                self.assertEqual(found[1:], [len(pair[0])] + pair[0] + [len(pair[1])] + pair[1], (p, q))
            else:
                self.assertEqual(last(*stored(ARRAY, p, q), prove_disjoint(1, 2, found[2:])), [1], (p, q))
        self.assertEqual(sorted(kinds), [0, 1])

    def test_views_with_few_axes(self):
        self.compare(small_views(4, 1600, 0, 2))

    def test_views_with_more_axes(self):
        self.compare(small_views(5, 400, 2, 4))

    def test_views_with_six_axes(self):
        self.compare(small_views(6, 60, 5, 6))

    def test_validity_of_any_certificate(self):
        trees = [[1], [2], [3]]
        trees += [[0, a, b] for a in (1, 2, 3) for b in (1, 2, 3)]
        trees += [[0, 0, 2, a, b] for a in (1, 2, 3) for b in (1, 2, 3)]
        trees += [[0, a, 0, b, 2] for a in (1, 2, 3) for b in (1, 2, 3)]
        views = small_views(7, 160, 0, 3)
        for p, q in zip(views[0::2], views[1::2]):
            target, variables = shared_variables(p, q)
            found = ask(*stored(ARRAY, p, q), *[prove_disjoint(1, 2, tree) for tree in trees])[3:]
            for tree, answer in zip(trees, found, strict=True):
                self.assertEqual(answer, reference.check_answer(target, variables, tree), (p, q, tree))


class GreatNumbers(unittest.TestCase):
    def test_views_of_great_arrays(self):
        root = 10 ** 9
        for p, q, answer in (
            ((0, [root, root]), (2, [root, root - 1]), [1, 1, 2, 1, 2]),
            ((0, [root, root]), (root - 1, [root, root - 1]), [1, 1, root - 1, 1, root - 1]),
            ((1, [root // 2, 2 * root]), (0, [root, root]), [0, 1, 2]),
            # The first element alone would need position 10^9 of the second view, which has none.
            ((GREATEST - 1, [root, -root]), (root - 1, [root, root - 1]), [1, 1, root - 1, 1, 0]),
            ((GREATEST - 1, [root - 1, -root]), (root - 1, [root, root - 1]), [0, 1, 3]),
            ((0, [GREATEST, 1]), (GREATEST - 1, [GREATEST, -1]), [1, 1, 0, 1, GREATEST - 1]),
        ):
            setup = stored(GREATEST, p, q)
            self.assertEqual(last(*setup, find_shared(1, 2)), answer)
            if answer[0] == 0:
                self.assertEqual(last(*setup, prove_disjoint(1, 2, answer[2:])), [1])


class SearchLimit(unittest.TestCase):
    # The first axis decides, since the others add multiples of 2000 alone; so
    # each position of it before the first one that fits costs a box.
    LENGTH = 50000
    OTHER = [10, -2000]

    def found(self, positions, offset):
        p, q = (0, [positions, 1, 10, 2000]), (offset, self.OTHER)
        return p, q, last(*stored(self.LENGTH, p, q), find_shared(1, 2))

    def test_a_pair_in_the_last_box_is_found(self):
        p, q, found = self.found(1024, 20998)
        self.assertEqual(reference.examined(*shared_variables(p, q)), 2000)
        self.assertEqual(found, [1, 2, 998, 1, 1, 9])

    def test_a_pair_one_box_further_is_not_found(self):
        self.assertEqual(self.found(1024, 20999)[2], [-30])

    def test_a_certificate_of_nearly_as_many_boxes_is_found(self):
        p, q, found = self.found(1000, 21000)
        self.assertEqual(found[:2], [0, 1999])
        self.assertEqual(last(*stored(self.LENGTH, p, q), prove_disjoint(1, 2, found[2:])), [1])

    def test_a_certificate_of_more_boxes_is_not_found(self):
        self.assertEqual(self.found(1001, 21001)[2], [-30])

    def test_a_failed_search_leaves_the_views_as_they_were(self):
        p, q = (0, [1001, 1, 10, 2000]), (21001, self.OTHER)
        found = ask(*stored(self.LENGTH, p, q), find_shared(1, 2), get_view(1), get_view(2), find_shared(1, 1))[3:]
        self.assertEqual(found, [[-30], [0, 4] + p[1], [21001, 2] + q[1], [1, 2, 0, 0, 2, 0, 0]])


class LongCertificates(unittest.TestCase):
    def test_nested_as_deep_as_the_views_let_them_be(self):
        # Each view has one axis of 5 * 10^17 even, or odd, cells: 59 halvings each.
        length = GREATEST // 2
        setup = stored(GREATEST, (0, [length, 2]), (1, [length, 2]))
        for certificate, answer in (
            ([2], 1),
            ([0] * 118 + [2] * 119, 1),
            ([0] * 119 + [2] * 120, 0),
            ([0] * 1249 + [2] * 1250, 0),
            ([0, 2] * 1249 + [2], 0),
            ([0] * 1250 + [2] * 1250, -33),
            ([0] * 1249 + [2] * 1251, -33),
        ):
            self.assertEqual(last(*setup, prove_disjoint(1, 2, certificate)), [answer])

    def test_a_valid_certificate_of_the_greatest_length(self):
        setup = stored(GREATEST, (0, [GREATEST // 2, 2]), (1, [GREATEST // 2, 2]))
        certificate = balanced(1249, 2)
        self.assertEqual(len(certificate), 2499)
        self.assertEqual(last(*setup, prove_disjoint(1, 2, certificate)), [1])
        self.assertEqual(last(*setup, prove_disjoint(1, 1, certificate)), [0])
        self.assertEqual(last(*setup, prove_disjoint(1, 2, certificate + [2])), [-33])
        self.assertEqual(last(*setup, prove_disjoint(1, 2, certificate[:-1] + [3])), [0])


if __name__ == "__main__":
    unittest.main()
