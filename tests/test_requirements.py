"""The points 1 to 7 that the document promises over the whole program."""

import random
import unittest

from tests import reference
from tests.mixed import Mixed
from tests.mixed import WRITTEN
from tests.model import Model
from tests.model import extremes
from tests.samples import ARRAY
from tests.samples import SMALL_TREES
from tests.samples import balanced
from tests.samples import middling_views
from tests.samples import small_views
from tests.samples import stored
from tests.samples import trees
from tests.support import GREATEST
from tests.support import ask
from tests.support import cell_at
from tests.support import check_certificate
from tests.support import find_repetition
from tests.support import find_shared
from tests.support import first_repeated
from tests.support import first_shared_pair
from tests.support import get_view
from tests.support import prove_disjoint
from tests.support import prove_distinct
from tests.support import set_length
from tests.support import set_view
from tests.support import solve

def number_of(index, lengths):
    """Return the number of the element with this index."""
    number = 0
    for position, length in zip(index, lengths):
        number = number * length + position
    return number


class Soundness(unittest.TestCase):
    """Points 1 and 4: what any valid certificate shows."""

    def test_no_equation_with_a_solution_has_a_valid_certificate(self):
        chance = random.Random(31)
        valid_count = 0
        for turn in range(120):
            pool = chance.choice(((-6, 4, 10), (3, 5, -7), (0, 6, 9, 15)))
            variables = []
            for place in range(chance.randint(1, 3)):
                variables += [chance.choice(pool), chance.randint(0, 3)]
            target = chance.randint(-15, 25)
            found = ask(*[check_certificate(target, variables, tree) for tree in SMALL_TREES])
            if [1] in found:
                valid_count += 1
                self.assertIsNone(reference.least_solution(target, variables), (target, variables))
        self.assertGreater(valid_count, 40)

    def test_equations_with_great_numbers_and_a_known_solution_have_none(self):
        chance = random.Random(32)
        certificates = SMALL_TREES + [balanced(40, claim) for claim in (1, 2, 3)]
        for turn in range(150):
            greatest, most = ((10 ** 17, 1), (10 ** 8, 10 ** 9))[turn % 2]
            variables, target = [], 0
            for place in range(chance.randint(1, 8)):
                coefficient = chance.randint(-greatest, greatest)
                value = chance.randint(0, most)
                variables += [coefficient, value + chance.choice((0, 3, GREATEST - most))]
                target += coefficient * value
            found = ask(*[check_certificate(target, variables, tree) for tree in certificates])
            self.assertEqual(found, [[0]] * len(certificates), (target, variables))

    def test_views_that_are_proved_disjoint_share_no_cell(self):
        valid_count = 0
        views = small_views(33, 240, 0, 3)
        for p, q in zip(views[0::2], views[1::2]):
            found = ask(*stored(ARRAY, p, q), *[prove_disjoint(1, 2, tree) for tree in SMALL_TREES])[3:]
            if [1] in found:
                valid_count += 1
                self.assertEqual(set(reference.cells(p)) & set(reference.cells(q)), set(), (p, q))
        self.assertGreater(valid_count, 20)

    def test_views_that_are_proved_distinct_repeat_no_cell(self):
        lists = [[]] + SMALL_TREES
        lists += [first + second for first in trees(0) + trees(1) for second in trees(0) + trees(1)]
        lists += [a + b + c for a in trees(0) for b in trees(0) for c in trees(0) + trees(1)]
        valid_count = 0
        for view in small_views(34, 150, 0, 3):
            found = ask(*stored(ARRAY, view), *[prove_distinct(1, one) for one in lists])[2:]
            if [1] in found:
                valid_count += 1
                self.assertEqual(len(set(reference.cells(view))), len(reference.cells(view)), view)
        self.assertGreater(valid_count, 40)


class Searches(unittest.TestCase):
    """Points 2, 3 and 5: what a search that does not fail gives."""

    def test_the_least_solution_or_a_valid_certificate(self):
        chance = random.Random(35)
        for turn in range(300):
            variables = []
            for place in range(chance.randint(0, 4)):
                variables += [chance.choice((-10, -6, 3, 4, 9, 15)), chance.randint(0, 5)]
            target = chance.randint(-20, 40)
            answer = ask(solve(target, variables))[0]
            least = reference.least_solution(target, variables)
            self.assertEqual(answer[0], 0 if least is None else 1)
            if least is None:
                self.assertEqual(ask(check_certificate(target, variables, answer[2:])), [[1]])
            else:
                self.assertEqual(answer, [1, len(least)] + least)

    def test_the_least_pair_with_the_same_cell(self):
        views = small_views(36, 300, 0, 3)
        for p, q in zip(views[0::2], views[1::2]):
            answer = ask(*stored(ARRAY, p, q), find_shared(1, 2))[3]
            pair = reference.least_shared(p, q)
            if pair is None:
                self.assertEqual(ask(*stored(ARRAY, p, q), prove_disjoint(1, 2, answer[2:]))[3], [1])
            else:
                self.assertEqual(answer, [1, len(pair[0])] + pair[0] + [len(pair[1])] + pair[1])

    def test_two_indices_with_the_same_cell_the_first_one_before_the_second_one(self):
        for view in small_views(37, 400, 1, 4) + middling_views(38, 200, 500):
            found = ask(*stored(500, view), find_repetition(1))[2]
            self.assertIn(found[0], (0, 1))
            if found[0] == 0:
                self.assertEqual(ask(*stored(500, view), prove_distinct(1, found[2:]))[2], [1])
                continue
            x, y = found[2:2 + found[1]], found[3 + found[1]:]
            self.assertEqual(len(x), len(y))
            self.assertLess(x, y)
            cells = ask(*stored(500, view), cell_at(1, x), cell_at(1, y))[2:]
            self.assertEqual(cells[0], cells[1])
            self.assertGreaterEqual(cells[0][0], 0)


class SearchAndEnumeration(unittest.TestCase):
    """Point 6: both agree, unless a search exceeds its limit."""

    def agree(self, views, array):
        kinds = {(0, 0): 0, (0, 1): 0, (1, 0): 0, (1, 1): 0}
        for p, q in zip(views[0::2], views[1::2]):
            calls = [find_shared(1, 2), first_shared_pair(1, 2), find_repetition(1), first_repeated(1)]
            shared, pair, repetition, repeated = ask(*stored(array, p, q), *calls)[3:]
            self.assertGreaterEqual(pair[0], 0)
            if shared[0] == 1:
                left, right = shared[2:2 + shared[1]], shared[3 + shared[1]:]
                self.assertEqual(pair, [1, number_of(left, p[1][0::2]), number_of(right, q[1][0::2])], (p, q))
            elif shared != [-30]:
                self.assertEqual(pair, [0], (p, q))
            if repetition != [-30]:
                self.assertEqual(repetition[0], repeated[0], p)
            kinds[(pair[0], repeated[0])] += 1
        self.assertGreater(min(kinds.values()), 0)

    def test_small_views(self):
        self.agree(small_views(41, 1600, 0, 4), ARRAY)

    def test_views_of_up_to_400_elements(self):
        self.agree(middling_views(42, 500, 700), 700)


class WholeProgram(unittest.TestCase):
    """Lists of calls of all operations against the terms, and point 7 after each of them."""

    def run_list(self, mixed, operations):
        model = Model()
        calls, wanted = [set_length(mixed.array)], [model.set_length(mixed.array)]
        for operation in operations:
            call, arguments = mixed.call(operation)
            calls.append(call)
            wanted.append(getattr(model, WRITTEN[operation].__name__)(*arguments))
        calls += [get_view(p) for p in range(6)]
        found = ask(*calls)
        for call, answer, expected in zip(calls, found, wanted):
            self.assertEqual(answer, expected, call)
        self.check_views(model.n, found[-6:])
        return found

    def check_views(self, array, views):
        for view in views:
            offset, axes = view[0], view[2:]
            self.assertEqual(view[1], len(axes))
            if 0 in axes[0::2]:
                self.assertEqual((offset, set(axes[1::2])), (0, {0}))
                continue
            low, high = extremes((offset, axes))
            self.assertGreaterEqual(low, 0)
            self.assertLess(high, array)
            self.assertTrue(all(stride == 0 for length, stride in zip(axes[0::2], axes[1::2]) if length == 1))

    def test_all_operations_in_turn(self):
        mixed = Mixed(51, 40)
        operations = [0] + [1] * 8 + list(range(1, 16)) * 18
        self.run_list(mixed, operations)

    def test_any_lists_of_calls(self):
        codes = set()
        for seed in range(60):
            mixed = Mixed(seed, 20 + seed)
            found = self.run_list(mixed, [mixed.operation() for turn in range(200)])
            codes.update(answer[0] for answer in found if len(answer) == 1 and answer[0] < 0)
        self.assertEqual(codes, {-10, -11, -12, -21, -22, -23, -24, -25, -26, -31, -33})

    def test_short_lists_of_calls(self):
        for seed in range(200):
            mixed = Mixed(1000 + seed, seed % 9)
            self.run_list(mixed, [mixed.operation() for turn in range(seed % 25)])

    def test_views_of_great_arrays_stay_within_them(self):
        chance = random.Random(52)
        calls = [set_length(GREATEST)]
        for turn in range(290):
            axes = []
            for place in range(chance.randint(0, 4)):
                axes += [10 ** chance.randint(0, 6) + chance.randint(-1, 1), chance.randint(-1, 1) * 10 ** chance.randint(0, 14)]
            calls.append(set_view(chance.randint(-1, 6), chance.choice((0, GREATEST // 2, GREATEST - 1)), axes))
        found = ask(*calls, *[get_view(p) for p in range(6)])
        self.assertIn([-24], found)
        self.assertIn([-10], found)
        self.assertGreater(max(answer[0] for answer in found[1:291]), 10 ** 6)
        self.check_views(GREATEST, found[-6:])


if __name__ == "__main__":
    unittest.main()
