"""solve, against the document's terms and against plain enumeration."""

import random
import unittest

from tests import reference
from tests.support import GREATEST
from tests.support import ask
from tests.support import assert_checked
from tests.support import check_certificate
from tests.support import solve
from tests.support import solve_all

# One free variable decides; the other two only add multiples of 2000. So
# each value below the first one that fits costs a box, and so does each
# bisection on the way to it.
STEP = 2000


def stepping(last_value):
    """Return variables of which the first has the values up to the last one."""
    return [1, last_value, STEP, 9, STEP, 9]


def small_equations(seed, amount, greatest_count, greatest_upper):
    """Return equations that differ, the same ones each time."""
    chance = random.Random(seed)
    equations = []
    for turn in range(amount):
        pool = chance.choice(((-6, -4, 2, 8, 10), (-7, 3, 5, 11), (0, 1, -1, 4), (6, 10, 15, -9), (12, 18, -30)))
        variables = []
        for place in range(chance.randint(0, greatest_count)):
            variables += [chance.choice(pool), chance.randint(0, greatest_upper)]
        equations.append((chance.randint(-25, 45), variables))
    return equations


class Refusals(unittest.TestCase):
    def test_variables_that_are_not_at_most_eight_pairs(self):
        for variables in ([1], [1, 0, 1], [1, 1] * 8 + [1], [1, 1] * 9, [1, 1] * 10, [GREATEST] * 19):
            self.assertEqual(ask(solve(0, variables)), [[-25]])

    def test_that_comes_before_bounds_out_of_range(self):
        for variables in ([-1], [1, -1, 1], [1, -1] * 9):
            self.assertEqual(ask(solve(0, variables)), [[-25]])

    def test_an_upper_bound_out_of_range(self):
        for variables in ([1, -1], [0, -1], [1, 1, 1, -GREATEST], [2, 0, -1, -1, 1, 1], [1, 1] * 7 + [1, -1]):
            self.assertEqual(ask(solve(0, variables)), [[-26]])

    def test_the_ends_of_both_ranges_are_taken(self):
        for variables in ([GREATEST, GREATEST], [-GREATEST, GREATEST], [-GREATEST, 0], [0, GREATEST]):
            self.assertEqual(ask(solve(0, variables)), [[1, 1, 0]])

    def test_eight_pairs_are_taken(self):
        self.assertEqual(ask(solve(36, [1, 1, 2, 1, 3, 1, 4, 1, 5, 1, 6, 1, 7, 1, 8, 1])), [[1, 8] + [1] * 8])


class FewVariables(unittest.TestCase):
    def test_no_variables(self):
        self.assertEqual(ask(solve(0, []), solve(1, []), solve(-1, [])), [[1, 0], [0, 1, 1], [0, 1, 1]])

    def test_variables_that_are_not_free_stay_at_their_lower_bound(self):
        for variables in ([0, 9], [5, 0], [0, 9, 5, 0, 0, GREATEST]):
            zeros = [0] * (len(variables) // 2)
            self.assertEqual(ask(solve(0, variables)), [[1, len(zeros)] + zeros])
            self.assertEqual(ask(solve(5, variables)), [[0, 1, 1]])

    def test_one_variable(self):
        for target, variables, answer in (
            (12, [4, 3], [1, 1, 3]),
            (16, [4, 3], [0, 1, 1]),
            (-4, [4, 3], [0, 1, 1]),
            (6, [4, 3], [0, 1, 2]),
            (-8, [-4, 3], [1, 1, 2]),
            (-6, [-4, 3], [0, 1, 2]),
            (4, [-4, 3], [0, 1, 1]),
            (8, [0, 7, 4, 3, 9, 0], [1, 3, 0, 2, 0]),
        ):
            self.assertEqual(ask(solve(target, variables)), [answer])

    def test_two_variables(self):
        for target, variables, answer in (
            (7, [3, 2, 5, 2], [0, 1, 3]),
            (11, [3, 2, 5, 2], [1, 2, 2, 1]),
            (10, [3, 9, 5, 2], [1, 2, 0, 2]),
            (30, [3, 9, 5, 5], [1, 2, 5, 3]),
            (1, [6, 9, 10, 9], [0, 1, 2]),
            (2, [6, 9, -10, 9], [1, 2, 2, 1]),
            (-2, [-6, 9, 10, 9], [1, 2, 2, 1]),
            (4, [6, 9, -6, 9], [0, 1, 2]),
            (-12, [6, 9, -6, 9], [1, 2, 0, 2]),
            (12, [6, 9, -6, 9], [1, 2, 2, 0]),
            (-9, [-2, 9, -5, 9], [1, 2, 2, 1]),
            (5, [1, 3, 1, 3], [1, 2, 2, 3]),
            (8, [0, 3, 3, 2, 7, 0, 5, 2], [1, 4, 0, 1, 0, 1]),
        ):
            self.assertEqual(ask(solve(target, variables)), [answer])

    def test_range_is_told_before_divisibility(self):
        self.assertEqual(ask(solve(99, [4, 3, 6, 3]), solve(-1, [4, 3, 6, 3, 8, 3])), [[0, 1, 1], [0, 1, 1]])


class AgainstTheTerms(unittest.TestCase):
    def compare(self, equations):
        found = solve_all(equations)
        for (target, variables), answer in zip(equations, found):
            self.assertEqual(answer, reference.solve_answer(target, variables), (target, variables))
            solution = reference.least_solution(target, variables)
            self.assertEqual(answer[0], 0 if solution is None else 1, (target, variables))
            if solution is not None:
                self.assertEqual(answer[2:], solution, (target, variables))
        return found

    def check_certificates(self, equations, found):
        cases = [(*equation, answer[2:]) for equation, answer in zip(equations, found) if answer[0] == 0]
        assert_checked(self, cases, [[1]] * len(cases))

    def test_two_variables_of_all_small_kinds(self):
        coefficients = (-10, -6, -3, -1, 0, 2, 4, 5, 6)
        equations = []
        for first in coefficients:
            for second in coefficients:
                for target in range(-14, 15):
                    equations.append((target, [first, 4, second, 2]))
        self.check_certificates(equations, self.compare(equations))

    def test_up_to_five_variables(self):
        equations = small_equations(1, 2000, 5, 4)
        found = self.compare(equations)
        self.check_certificates(equations, found)
        claims = [claim for answer in found if answer[0] == 0 for claim in answer[2:]]
        self.assertEqual(sorted(set(claims)), [0, 1, 2, 3])

    def test_up_to_eight_variables(self):
        equations = small_equations(2, 400, 8, 2)
        self.check_certificates(equations, self.compare(equations))

    def test_three_variables_with_wider_bounds(self):
        equations = small_equations(3, 600, 3, 12)
        self.check_certificates(equations, self.compare(equations))


class GreatNumbers(unittest.TestCase):
    def test_products_near_ten_to_the_thirty_sixth(self):
        most = GREATEST
        for target, variables, solution in (
            (1, [most, most, 1 - most, most], [1, 1]),
            (-1, [most, most, 1 - most, most], [most - 2, most - 1]),
            (-1, [most, most - 3, 1 - most, most], None),
            (-1, [most, most, 1 - most, most - 2], None),
            (most, [most, most, -most, most], [1, 0]),
            (-most, [most, most, -most, most], [0, 1]),
            (0, [-most, most, most, most], [0, 0]),
            (most, [most, most] * 8, [0] * 7 + [1]),
            (most, [1, most] * 8, [0] * 7 + [most]),
            (-most, [-1, most] * 8, [0] * 7 + [most]),
        ):
            expected = [0, 1, 3] if solution is None else [1, len(solution)] + solution
            self.assertEqual(ask(solve(target, variables)), [expected])

    def test_nothing_wraps_at_the_width_of_a_word(self):
        for variables in ([2 ** 32, 2 ** 32], [2 ** 58, 64], [2 ** 32, 2 ** 32, 2 ** 58, 64]):
            found = ask(solve(GREATEST, variables))[0]
            self.assertEqual(found[0], 0)
        self.assertEqual(ask(solve(2 ** 59, [2 ** 58, 64, -(2 ** 58), 64])), [[1, 2, 2, 0]])

    def test_a_search_goes_deep(self):
        most = GREATEST
        self.assertEqual(ask(solve(1, [2, most] * 8)), [[0, 1, 2]])
        # Six variables of 60 bisections each, then the pair, then the right halves.
        comb = [0] * 360 + [3] + [1] * 360
        answer = ask(solve(1, [2, most] * 6 + [most, 1, most - 1, 1]))[0]
        self.assertTrue(answer == [0, 721] + comb)
        self.assertEqual(ask(solve(-1, [3, most] * 7 + [-10, most])), [[1, 8] + [0] * 6 + [3, 1]])


class SearchLimit(unittest.TestCase):
    def test_the_reference_counts_the_boxes_of_the_cases_below(self):
        self.assertEqual(reference.examined(2998, stepping(1023)), 2000)
        self.assertEqual(reference.examined(3000, stepping(999)), 1999)

    def test_a_solution_in_the_last_box_is_found(self):
        self.assertEqual(ask(solve(2998, stepping(1023))), [[1, 3, 998, 0, 1]])

    def test_a_solution_one_box_further_is_not_found(self):
        self.assertEqual(ask(solve(2999, stepping(1023))), [[-30]])

    def test_a_certificate_of_nearly_as_many_boxes_is_found(self):
        answer = ask(solve(3000, stepping(999)))[0]
        self.assertEqual(answer[:2], [0, 1999])
        self.assertEqual(len(answer), 2001)
        self.assertEqual(ask(check_certificate(3000, stepping(999), answer[2:])), [[1]])

    def test_a_certificate_of_more_boxes_is_not_found(self):
        self.assertEqual(ask(solve(3001, stepping(1000))), [[-30]])

    def test_each_call_counts_anew(self):
        calls = [solve(2999, stepping(1023)), solve(2998, stepping(1023)), solve(3000, stepping(999))] * 3
        self.assertEqual([answer[0] for answer in ask(*calls)], [-30, 1, 0] * 3)


if __name__ == "__main__":
    unittest.main()
