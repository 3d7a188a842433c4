"""proof and margin: the prices told fit and prove the plan; what one sheet more costs."""

import random
import unittest
from dataclasses import replace

from tests.helper import (COST, MARGIN, NEED, PLAN, PROOF, Case, ask, ask_last, bound, faults, improve, search,
                          some_case)


def large_case(seed):
    chance = random.Random(seed)
    return some_case(seed, 7, most_need=20, most_sheets=chance.choice([0, 50]), most_price=chance.choice([20, 10000]),
                     most_cost=chance.choice([0, 10, 1000]), most_slow=chance.choice([1, 2, 3, 9]))


class Proof(unittest.TestCase):
    def prices_of(self, case):
        told = ask_last(case.opening(), (PROOF,))
        self.assertEqual(told[0], 0)
        self.assertEqual(len(told), 2 + 2 * case.days)
        return told[1], told[2:2 + case.days], told[2 + case.days:]

    def prove(self, case, best_of):
        """best_of: how the test itself finds the cheapest plan."""
        with self.subTest(case=case):
            told, clean, dirty = self.prices_of(case)
            cost = best_of(case)[0]
            self.assertEqual(faults(case, clean, dirty), [])
            self.assertEqual(told, bound(case, clean, dirty))
            self.assertEqual(told, cost)
            self.assertEqual(clean, [best_of(case.with_one_aside(day))[0] - cost for day in range(case.days)])
            self.least(case, clean, dirty)

    def least(self, case, clean, dirty):
        for day in range(case.days):
            less = dirty[:day] + [dirty[day] - 1] + dirty[day + 1:]
            self.assertIn(day, [fault[0] for fault in faults(case, clean, less)])

    def test_the_example(self):
        case = Case(1, 2, 3, 1, 0, 0, [10, 10, 10], [2, 1, 2])
        self.assertEqual(ask_last(case.opening(), (PROOF,)), [0, 27, 10, 10, 8, 7, 5, 0])

    def test_one_day(self):
        self.assertEqual(ask_last(Case(1, 1, 0, 0, 0, 9, [7], [3]).opening(), (PROOF,)), [0, 21, 7, 0])
        self.assertEqual(ask_last(Case(1, 1, 0, 0, 3, 9, [7], [3]).opening(), (PROOF,)), [0, 0, 7, 0])
        self.assertEqual(ask_last(Case(1, 1, 0, 0, 4, 9, [7], [3]).opening(), (PROOF,)), [0, 0, 0, 0])

    def test_where_the_price_leaps(self):
        # One clean sheet is left over: the next one is for nothing, the one behind it is not.
        case = Case(1, 1, 2, 2, 2, 0, [9, 9], [1, 1])
        self.assertEqual(ask_last(case.opening(), (PROOF,)), [0, 0, 2, 2, 0, 0])
        self.assertEqual(ask_last(replace(case, clean=3).opening(), (PROOF,)), [0, 0, 0, 0, 0, 0])

    def test_small_houses(self):
        for days in (1, 2, 3):
            for seed in range(30):
                self.prove(some_case(seed, days), search)
        for seed in range(6):
            self.prove(some_case(seed, 4), search)

    def test_for_nothing(self):
        for seed in range(15):
            self.prove(some_case(seed, 3, most_price=0), search)
            self.prove(some_case(seed, 3, most_cost=0), search)
            self.prove(replace(some_case(seed, 3), needs=[0, 0, 0]), search)

    def test_behind_the_last_day(self):
        for seed in range(10):
            self.prove(replace(some_case(seed, 3), fast_days=2, slow_days=9), search)
            self.prove(replace(some_case(seed, 3), fast_days=5, slow_days=5), search)

    def test_large_houses(self):
        for seed in range(25):
            self.prove(large_case(seed), improve)
        self.prove(Case(1, 3, 1000, 0, 0, 0, [10000] * 7, [20] * 7), improve)

    def test_it_is_the_cost_told(self):
        for seed in range(25):
            plan, cost, proof = ask(large_case(seed).opening(), (PLAN,), (COST,), (PROOF,))[1:]
            self.assertEqual([plan[1], proof[1]], [cost[1], cost[1]])


class Margin(unittest.TestCase):
    def test_the_example(self):
        case = Case(1, 2, 3, 1, 0, 0, [10, 10, 10], [2, 1, 2])
        self.assertEqual(ask(case.opening(), (MARGIN, 0), (MARGIN, 1), (MARGIN, 2))[1:], [[0, 8], [0, 5], [0, 8]])

    def test_against_a_search(self):
        for days in (1, 2, 3):
            for seed in range(30):
                case = some_case(seed, days)
                told = ask(case.opening(), *[(MARGIN, day) for day in range(days)])[1:]
                cost = search(case)[0]
                more = [search(case.with_need(day, case.needs[day] + 1))[0] - cost for day in range(days)]
                self.assertEqual(told, [[0, difference] for difference in more])

    def test_by_the_costs_before_and_after(self):
        for seed in range(25):
            case = large_case(seed)
            for day in range(7):
                if case.needs[day] < 20:
                    calls = ((COST,), (MARGIN, day), (NEED, day, case.needs[day] + 1), (COST,))
                    before, margin, done, after = ask(case.opening(), *calls)[1:]
                    self.assertEqual(margin, [0, after[1] - before[1]])

    def test_a_need_of_twenty_already(self):
        self.assertEqual(ask_last(Case(1, 1, 0, 0, 0, 0, [7], [20]).opening(), (MARGIN, 0)), [0, 7])
        self.assertEqual(ask_last(Case(1, 1, 0, 0, 21, 0, [7], [20]).opening(), (MARGIN, 0)), [0, 0])
        for seed in range(10):
            case = replace(large_case(seed), needs=[20] * 7)
            told = ask(case.opening(), *[(MARGIN, day) for day in range(7)], (COST,))[1:]
            cost = improve(case)[0]
            more = [improve(case.with_need(day, 21))[0] - cost for day in range(7)]
            self.assertEqual(told, [[0, difference] for difference in more] + [[0, cost]])


if __name__ == "__main__":
    unittest.main()
