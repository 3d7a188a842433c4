"""plan and cost: against a search through every plan, and at the largest houses against better rounds."""

import random
import unittest
from dataclasses import replace

from tests.helper import (CHECK, COST, NEED, PLAN, PRICE, Case, ask, ask_last, carry, every_plan, improve, search,
                          some_case)


def plan_told(case):
    told, cost = ask(case.opening(), (PLAN,), (COST,))[1:]
    return told, cost


class Plans(unittest.TestCase):
    def agree(self, case, best):
        told, cost = plan_told(case)
        with self.subTest(case=case):
            self.assertEqual(told, [0, best[0]] + best[1] + best[2] + best[3])
            self.assertEqual(cost, [0, best[0]])

    def agree_with_search(self, case):
        self.agree(case, search(case))


class ByHand(Plans):
    def test_the_example(self):
        case = Case(1, 2, 3, 1, 0, 0, [10, 10, 10], [2, 1, 2])
        told, cost = plan_told(case)
        self.assertEqual(told, [0, 27, 2, 0, 0, 1, 1, 0, 1, 0, 0])
        self.assertEqual(cost, [0, 27])

    def test_one_day(self):
        self.assertEqual(plan_told(Case(1, 1, 0, 0, 0, 0, [7], [3]))[0], [0, 21, 3, 0, 0])
        self.assertEqual(plan_told(Case(1, 1, 0, 0, 2, 50, [7], [3]))[0], [0, 7, 1, 0, 0])
        self.assertEqual(plan_told(Case(1, 1, 0, 0, 50, 0, [7], [20]))[0], [0, 0, 0, 0, 0])
        self.assertEqual(plan_told(Case(5, 9, 1000, 1000, 0, 0, [10000], [20]))[0], [0, 200000, 20, 0, 0])

    def test_bought_late_if_as_cheap(self):
        case = Case(1, 1, 9, 9, 0, 0, [5, 5, 5], [0, 1, 2])
        self.assertEqual(plan_told(case)[0], [0, 15, 0, 1, 2, 0, 0, 0, 0, 0, 0])

    def test_bought_early_if_cheaper(self):
        case = Case(1, 1, 9, 9, 0, 0, [4, 5, 6], [0, 1, 2])
        self.assertEqual(plan_told(case)[0], [0, 12, 3, 0, 0, 0, 0, 0, 0, 0, 0])

    def test_less_bought_if_washing_is_as_dear(self):
        case = Case(1, 1, 5, 5, 0, 0, [5, 5], [2, 2])
        self.assertEqual(plan_told(case)[0], [0, 20, 2, 0, 0, 0, 2, 0])

    def test_slow_before_fast_if_as_cheap(self):
        case = Case(1, 1, 2, 2, 0, 1, [9, 9], [0, 1])
        self.assertEqual(plan_told(case)[0], [0, 2, 0, 0, 0, 0, 1, 0])

    def test_washed_late_if_as_cheap(self):
        case = Case(1, 3, 2, 3, 0, 1, [9, 9, 9], [0, 0, 1])
        self.assertEqual(plan_told(case)[0], [0, 2, 0, 0, 0, 0, 1, 0, 0, 0, 0])

    def test_no_wash_that_comes_back_behind_the_last_day(self):
        case = Case(2, 3, 0, 0, 3, 3, [5, 5], [3, 2])
        self.assertEqual(plan_told(case)[0], [0, 10, 0, 2, 0, 0, 0, 0])

    def test_nothing_needed(self):
        case = Case(1, 1, 0, 0, 5, 5, [0] * 7, [0] * 7)
        self.assertEqual(plan_told(case)[0], [0, 0] + [0] * 21)


class BySearch(Plans):
    def test_the_search_itself_against_each_plan_written_out(self):
        for seed in range(12):
            case = some_case(seed, 2, most_need=1, most_sheets=1, most_price=2, most_cost=1, most_slow=2)
            best = min((carry(case, plan)[1], *plan) for plan in every_plan(case, 3) if carry(case, plan)[0])
            self.assertEqual(search(case), best)

    def test_one_to_three_days(self):
        for days in (1, 2, 3):
            for seed in range(80):
                self.agree_with_search(some_case(seed, days))

    def test_four_days(self):
        for seed in range(25):
            self.agree_with_search(some_case(seed, 4))

    def test_five_days(self):
        for seed in range(12):
            self.agree_with_search(some_case(seed, 5, most_need=1, most_sheets=1))

    def test_washes_for_nothing(self):
        for seed in range(40):
            self.agree_with_search(some_case(seed, 3, most_cost=0))

    def test_prices_of_nothing(self):
        for seed in range(40):
            self.agree_with_search(some_case(seed, 3, most_price=0))
            self.agree_with_search(some_case(seed, 3, most_price=0, most_cost=0))

    def test_one_price_for_all(self):
        for seed in range(40):
            case = some_case(seed, 3)
            self.agree_with_search(replace(case, prices=[2, 2, 2], fast_cost=1, slow_cost=1))

    def test_both_washes_take_as_long(self):
        for seed in range(40):
            case = some_case(seed, 3)
            self.agree_with_search(replace(case, slow_days=case.fast_days))
            self.agree_with_search(replace(case, slow_days=case.fast_days, slow_cost=case.fast_cost))

    def test_washes_that_come_back_behind_the_last_day(self):
        for seed in range(20):
            case = some_case(seed, 3)
            self.agree_with_search(replace(case, slow_days=9))
            self.agree_with_search(replace(case, fast_days=3, slow_days=3))
            self.agree_with_search(replace(case, fast_days=5, slow_days=5, fast_cost=0, slow_cost=0))

    def test_days_without_need(self):
        for seed in range(20):
            for needs in ([0, 2, 1], [2, 0, 2], [1, 2, 0], [0, 0, 2], [2, 0, 0], [0, 0, 0]):
                self.agree_with_search(replace(some_case(seed, 3), needs=needs))

    def test_sheets_at_the_beginning(self):
        for seed in range(10):
            for clean, dirty in ((0, 4), (4, 0), (3, 3), (1, 5)):
                self.agree_with_search(replace(some_case(seed, 3, most_slow=2), clean=clean, dirty=dirty))

    def test_after_need_and_price(self):
        for seed in range(20):
            case, other = some_case(seed, 3), some_case(seed + 1000, 3)
            changes = [(NEED, day, need) for day, need in enumerate(other.needs)]
            changes += [(PRICE, day, price) for day, price in enumerate(other.prices)]
            best = search(replace(case, needs=other.needs, prices=other.prices))
            told = ask(case.opening(), (PLAN,), *changes, (PLAN,), (COST,))
            self.assertEqual(told[-2:], [[0, best[0]] + best[1] + best[2] + best[3], [0, best[0]]])


class Largest(Plans):
    def agree_with_rounds(self, case):
        best = improve(case)
        self.agree(case, best)
        checked = ask_last(case.opening(), (CHECK, best[1], best[2], best[3]))
        self.assertEqual(checked, [0, 1, best[0]])

    def test_the_rounds_against_the_search(self):
        for seed in range(60):
            case = some_case(seed, 3)
            self.assertEqual(improve(case), search(case))

    def test_seven_days_of_all_kinds(self):
        for seed in range(60):
            chance = random.Random(seed)
            self.agree_with_rounds(some_case(
                seed, 7, most_need=chance.choice([1, 3, 20]), most_sheets=chance.choice([0, 3, 50]),
                most_price=chance.choice([0, 2, 20, 10000]), most_cost=chance.choice([0, 1, 10, 1000]),
                most_slow=chance.choice([1, 2, 3, 9])))

    def test_needs_of_twenty(self):
        for seed in range(10):
            case = some_case(seed, 7, most_sheets=0, most_price=10000, most_cost=1000, most_slow=3)
            self.agree_with_rounds(replace(case, needs=[20] * 7))
            self.agree_with_rounds(replace(case, needs=[20] * 7, clean=50, dirty=50))
            self.agree_with_rounds(replace(case, needs=[20] * 7, prices=[10000] * 7))
            self.agree_with_rounds(replace(case, needs=[20] * 7, prices=[0] * 7, fast_cost=0, slow_cost=0))

    def test_the_dearest(self):
        case = Case(5, 9, 1000, 1000, 0, 0, [10000] * 7, [20] * 7)
        told, cost = plan_told(case)
        self.assertEqual(told, [0, 1040000] + [20] * 5 + [0, 0] + [20, 20] + [0] * 5 + [0] * 7)
        self.assertEqual(cost, [0, 1040000])


if __name__ == "__main__":
    unittest.main()
