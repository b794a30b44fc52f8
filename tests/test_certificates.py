"""check_certificate: claims, forms and depths."""

import unittest

from tests import reference
from tests.samples import balanced
from tests.samples import trees
from tests.support import GREATEST
from tests.support import ask
from tests.support import assert_checked
from tests.support import check_certificate
from tests.support import solve
from tests.support import solve_all

# Every box of this equation is infeasible by divisibility, down to single values.
EVEN = [2, GREATEST] * 8


def checked(target, variables, certificate):
    return ask(check_certificate(target, variables, certificate))[0]


class Refusals(unittest.TestCase):
    def test_variables_that_are_not_at_most_eight_pairs(self):
        for variables in ([1], [1, 0, 1], [1, 1] * 9, [1, 1] * 10, [1, -1] * 9, [-1]):
            for certificate in ([], [1], [7], [1, 1]):
                self.assertEqual(checked(0, variables, certificate), [-25])

    def test_an_upper_bound_out_of_range(self):
        for variables in ([1, -1], [1, 1, 0, -GREATEST]):
            for certificate in ([], [1], [7], [1, 1]):
                self.assertEqual(checked(0, variables, certificate), [-26])

    def test_an_empty_list(self):
        self.assertEqual(checked(1, [], []), [-33])
        self.assertEqual(checked(9, [1, 1], []), [-33])

    def test_an_incomplete_list(self):
        for certificate in ([0], [0, 1], [0, 0, 1], [0, 0, 1, 2], [0, 1, 0, 2], [0, 1, 0]):
            self.assertEqual(checked(9, [1, 1], certificate), [-33])

    def test_what_follows_a_complete_certificate(self):
        for certificate in ([1, 1], [1, 0], [1, 9], [2, 2, 2], [3, 1], [0, 1, 1, 1], [0, 1, 0, 2, 3, 0], [1, 0, 1, 1]):
            self.assertEqual(checked(9, [1, 1], certificate), [-33])

    def test_other_integers(self):
        for other in (-GREATEST, -3, -2, -1, 4, 5, 6, 256, 2 ** 32, 2 ** 32 + 1, GREATEST):
            for certificate in ([other], [0, 1, other], [0, other, 1], [0, 0, other, 1, 1]):
                self.assertEqual(checked(9, [1, 1], certificate), [-33])

    def test_the_form_is_told_before_the_claims(self):
        for certificate in ([2, 2], [0, 2, 2, 1], [0, 2, 7], [0, 3], [0, 3, 0]):
            self.assertEqual(checked(0, [1, 1], certificate), [-33])


class Claims(unittest.TestCase):
    def test_claim_1(self):
        for target, variables, valid in (
            (4, [1, 3], 1),
            (3, [1, 3], 0),
            (0, [1, 3], 0),
            (-1, [1, 3], 1),
            (-4, [-1, 3], 1),
            (-3, [-1, 3], 0),
            (1, [-1, 3], 1),
            (6, [3, 1, -2, 4, 2, 1, 0, 9], 1),
            (5, [3, 1, -2, 4, 2, 1, 0, 9], 0),
            (-8, [3, 1, -2, 4, 2, 1, 0, 9], 0),
            (-9, [3, 1, -2, 4, 2, 1, 0, 9], 1),
            (1, [], 1),
            (0, [], 0),
            (1, [4, 3, 6, 3], 0),
        ):
            self.assertEqual(checked(target, variables, [1]), [valid])

    def test_claim_2(self):
        for target, variables, valid in (
            (1, [6, 9, 10, 9], 1),
            (2, [6, 9, 10, 9], 0),
            (2, [6, 9, 10, 0], 1),
            (3, [6, 9, -9, 9, 0, 5], 0),
            (4, [6, 9, -9, 9, 0, 5], 1),
            (-9, [-6, 9], 1),
            (-12, [-6, 9], 0),
            (900, [6, 9], 0),
            (901, [6, 9], 1),
            (0, [], 0),
            (7, [], 1),
            (-7, [0, 5, 7, 0], 1),
            (0, [0, 5, 7, 0], 0),
            (7, [7, 9, 3, 9, 0, 9], 0),
        ):
            self.assertEqual(checked(target, variables, [2]), [valid])

    def test_claim_3(self):
        for target, variables, valid in (
            (7, [3, 2, 5, 2], 1),
            (8, [3, 2, 5, 2], 0),
            (7, [0, 9, 3, 2, 8, 0, 5, 2], 1),
            (8, [0, 9, 3, 2, 8, 0, 5, 2], 0),
            (1, [6, 9, 10, 9], 0),
            (14, [6, 9, 10, 9], 1),
            (16, [6, 9, 10, 9], 0),
            (7, [3, 2], 0),
            (99, [3, 2], 0),
            (7, [], 0),
            (7, [3, 2, 5, 2, 9, 1], 0),
            (7, [3, 2, 5, 2, 9, 0], 1),
        ):
            self.assertEqual(checked(target, variables, [3]), [valid])

    def test_claim_3_may_be_true_where_claim_1_is(self):
        for target, variables in ((99, [3, 2, 5, 2]), (-3, [3, 2, 5, 2]), (9, [-3, 2, -5, 2]), (30, [6, 2, -10, 9])):
            self.assertEqual(checked(target, variables, [1]), [1])
            self.assertEqual(checked(target, variables, [3]), [1])
        self.assertEqual(checked(98, [6, 2, 10, 2], [3]), [1])
        self.assertEqual(checked(99, [6, 2, 10, 2], [3]), [0])

    def test_claim_0(self):
        for target, variables, certificate, valid in (
            (9, [2, 3], [0, 1, 2], 1),
            (9, [2, 3], [0, 2, 1], 1),
            (5, [2, 3], [0, 1, 2], 1),
            (5, [2, 3], [0, 2, 1], 0),
            (1, [2, 3], [0, 1, 2], 0),
            (1, [2, 3], [0, 2, 1], 1),
            (5, [2, 0], [0, 1, 1], 0),
            (5, [0, 3], [0, 1, 1], 0),
            (5, [], [0, 1, 1], 0),
            (9, [2, 1], [0, 1, 1], 1),
            (9, [2, 1], [0, 0, 1, 1, 1], 0),
            (9, [2, 1], [0, 1, 0, 1, 1], 0),
            (1, [6, 1, 10, 1, 15, 1], [0, 2, 1], 1),
            (1, [6, 1, 10, 1, 15, 1], [0, 3, 1], 0),
            (1, [6, 1, 10, 1, 15, 1], [0, 1, 2], 0),
        ):
            self.assertEqual(checked(target, variables, certificate), [valid], (target, variables, certificate))

    def test_an_equation_with_a_solution_has_no_valid_certificate(self):
        cases = []
        for target, variables in ((5, [2, 3, 3, 2]), (0, []), (8, [4, 2, 6, 2, 10, 2]), (-2, [-1, 3, 1, 1])):
            cases += [(target, variables, tree) for splits in range(4) for tree in trees(splits)]
        assert_checked(self, cases, [[0]] * len(cases))

    def test_all_small_certificates_against_the_terms(self):
        cases = []
        for target, variables in (
            (7, [3, 2, 5, 2]),
            (1, [6, 1, 10, 1, 15, 1]),
            (9, [4, 3, 6, 1]),
            (13, [6, 2, -10, 1, 0, 3, 4, 1]),
            (2, [1, 1]),
            (1, [2, 3]),
            (29, [12, 1, 18, 1, 5, 2]),
        ):
            cases += [(target, variables, tree) for splits in range(4) for tree in trees(splits)]
        expected = [reference.check_answer(*case) for case in cases]
        assert_checked(self, cases, expected)
        self.assertEqual(sorted(set(answer[0] for answer in expected)), [0, 1])

    def test_all_short_lists_against_the_terms(self):
        lists = [[]]
        for claim in (0, 1, 2, 3, 4, -1):
            lists += [[claim]]
            for other in (0, 1, 2, 3, 4):
                lists += [[claim, other]] + [[claim, other, third] for third in (0, 1, 2, 3, 4)]
        cases = [(9, [4, 3, 6, 1], certificate) for certificate in lists]
        assert_checked(self, cases, [reference.check_answer(*case) for case in cases])


class GreatNumbers(unittest.TestCase):
    def test_products_near_ten_to_the_thirty_sixth(self):
        most = GREATEST
        pair = [most, most - 3, 1 - most, most]
        self.assertEqual(checked(-1, pair, [3]), [1])
        self.assertEqual(checked(-1, pair, [1]), [0])
        self.assertEqual(checked(-1, [most, most, 1 - most, most], [3]), [0])
        self.assertEqual(checked(-most, [most, most], [1]), [1])
        self.assertEqual(checked(most, [most, most], [1]), [0])
        self.assertEqual(checked(-most, [-most, most, most, most], [1]), [0])
        self.assertEqual(checked(most - 1, [most, most], [2]), [1])
        # From the right half on, the first variable alone exceeds the target.
        self.assertEqual(checked(most - 1, [most, most, most, most], [0, 2, 1]), [1])
        self.assertEqual(checked(most - 1, [most, most, most, most], [0, 1, 1]), [0])


class LongCertificates(unittest.TestCase):
    def test_the_greatest_depth_of_left_halves(self):
        self.assertEqual(checked(1, EVEN, [0] * 480 + [2] * 481), [1])
        self.assertEqual(checked(1, EVEN, [0] * 481 + [2] * 482), [0])

    def test_the_greatest_depth_of_right_halves(self):
        self.assertEqual(checked(1, EVEN, [0, 2] * 472 + [2]), [1])
        self.assertEqual(checked(1, EVEN, [0, 2] * 473 + [2]), [0])

    def test_nested_deeper_than_any_bisection(self):
        self.assertEqual(checked(1, EVEN, [0] * 1249 + [2] * 1250), [0])
        self.assertEqual(checked(1, EVEN, [0, 2] * 1249 + [2]), [0])

    def test_long_lists_that_are_not_one_certificate(self):
        for certificate in (
            [0] * 2500,
            [0] * 1250 + [2] * 1250,
            [0] * 1249 + [2] * 1251,
            [0, 2] * 1250,
            [0, 2] * 1249 + [2, 2],
            [2] * 2500,
            balanced(1249, 2) + [2],
            balanced(1249, 2)[:-1],
            balanced(1249, 2)[:-1] + [4],
        ):
            self.assertEqual(checked(1, EVEN, certificate), [-33])

    def test_a_valid_certificate_of_the_greatest_length(self):
        for certificate in (balanced(1249, 2), [0] + balanced(768, 2) + [0] * 479 + [2] * 479 + balanced(1, 2)):
            self.assertEqual(len(certificate), 2499)
            self.assertEqual(checked(1, EVEN, certificate), [1])
            self.assertEqual(checked(1, EVEN, certificate[:-1] + [1]), [1])
            self.assertEqual(checked(1, EVEN, certificate[:-1] + [3]), [0])
            self.assertEqual(checked(2, EVEN, certificate), [0])

    def test_certificates_of_long_searches(self):
        for target, variables in ((3000, [1, 999, 2000, 9, 2000, 9]), (7, [2, 700, 1400, 9, 1402, 9])):
            answer = ask(solve(target, variables))[0]
            self.assertEqual(answer[0], 0)
            self.assertEqual(checked(target, variables, answer[2:]), [1])
            self.assertEqual(checked(target, variables, answer[2:] + [2]), [-33])
            self.assertEqual(checked(target, variables, answer[2:-1]), [-33])


class Changed(unittest.TestCase):
    def test_a_changed_claim_is_checked_anew(self):
        equations = [(target, [7, 2, 11, 2, 19, 2]) for target in range(-1, 75)]
        cases = []
        for equation, answer in zip(equations, solve_all(equations)):
            certificate = answer[2:] if answer[0] == 0 else []
            for place in range(len(certificate)):
                for claim in range(4):
                    cases.append((*equation, certificate[:place] + [claim] + certificate[place + 1:]))
        assert_checked(self, cases, [reference.check_answer(*case) for case in cases])


if __name__ == "__main__":
    unittest.main()
