"""check: plans that can be carried out and their cost, plans that can't and the first day that can't be."""

import random
import unittest

from tests.helper import CHECK, PLAN, Case, ask, ask_last, carry, every_plan, some_case

THREE = Case(1, 2, 3, 1, 0, 0, [10, 11, 12], [2, 1, 2])


def check(case, b, f, w):
    return ask_last(case.opening(), (CHECK, b, f, w))


class Check(unittest.TestCase):
    def agree(self, case, plan):
        with self.subTest(case=case, plan=plan):
            carried = carry(case, plan)
            self.assertEqual(check(case, *plan), [0, int(carried[0]), carried[1]])

    def test_can_be(self):
        self.assertEqual(check(THREE, [2, 1, 2], [0, 0, 0], [0, 0, 0]), [0, 1, 55])
        self.assertEqual(check(THREE, [2, 0, 0], [1, 1, 0], [1, 0, 0]), [0, 1, 27])
        self.assertEqual(check(THREE, [999, 999, 999], [2, 1, 2], [0, 0, 0]), [0, 1, 999 * 33 + 15])

    def test_too_few_clean_ones(self):
        self.assertEqual(check(THREE, [1, 9, 9], [0, 0, 0], [0, 0, 0]), [0, 0, 0])
        self.assertEqual(check(THREE, [2, 0, 9], [0, 0, 0], [0, 0, 0]), [0, 0, 1])
        self.assertEqual(check(THREE, [2, 1, 1], [0, 0, 0], [0, 0, 0]), [0, 0, 2])
        self.assertEqual(check(THREE, [0, 0, 0], [9, 9, 9], [9, 9, 9]), [0, 0, 0])

    def test_too_few_dirty_ones(self):
        self.assertEqual(check(THREE, [5, 0, 0], [2, 0, 0], [1, 0, 0]), [0, 0, 0])
        self.assertEqual(check(THREE, [5, 0, 0], [0, 4, 0], [0, 0, 0]), [0, 0, 1])
        self.assertEqual(check(THREE, [5, 0, 0], [0, 0, 3], [0, 0, 3]), [0, 0, 2])
        self.assertEqual(check(THREE, [5, 0, 0], [0, 0, 3], [0, 0, 2]), [0, 1, 61])

    def test_washed_sheets_come_back_in_the_morning_of_their_day(self):
        self.assertEqual(check(THREE, [2, 0, 1], [1, 0, 0], [1, 0, 0])[1], 1)
        self.assertEqual(check(THREE, [2, 0, 1], [0, 0, 0], [2, 0, 0]), [0, 0, 1])
        self.assertEqual(check(THREE, [2, 1, 0], [0, 0, 0], [2, 0, 0]), [0, 1, 33])
        self.assertEqual(check(THREE, [2, 1, 0], [0, 0, 0], [1, 1, 0]), [0, 0, 2])

    def test_washes_behind_the_last_day_are_paid(self):
        case = Case(5, 9, 1000, 7, 50, 50, [1] * 7, [0] * 7)
        self.assertEqual(check(case, [0] * 7, [0] * 6 + [1], [0] * 6 + [49]), [0, 1, 1343])
        self.assertEqual(check(case, [0] * 7, [0] * 6 + [1], [0] * 6 + [50]), [0, 0, 6])

    def test_sheets_at_the_beginning(self):
        case = Case(1, 1, 2, 3, 2, 1, [10], [2])
        self.assertEqual(check(case, [0], [3], [0]), [0, 1, 6])
        self.assertEqual(check(case, [0], [2], [1]), [0, 1, 7])
        self.assertEqual(check(case, [0], [2], [2]), [0, 0, 0])

    def test_each_small_plan(self):
        for seed in range(4):
            case = some_case(seed, 2, most_need=2, most_sheets=1, most_slow=2)
            for plan in every_plan(case, 2):
                self.agree(case, plan)

    def test_plans_by_chance(self):
        for seed in range(400):
            chance = random.Random(seed)
            case = some_case(seed, chance.randint(3, 7), most_need=3, most_sheets=3)
            most = chance.choice([1, 2, 3, 999])
            plan = tuple([chance.randint(0, least) for day in range(case.days)] for least in (most, 2, 2))
            self.agree(case, plan)

    def test_the_plan_told(self):
        for seed in range(60):
            case = some_case(seed, 1 + seed % 7, most_need=20, most_sheets=20, most_price=100, most_cost=50)
            told = ask_last(case.opening(), (PLAN,))
            days = case.days
            rows = told[2:2 + days], told[2 + days:2 + 2 * days], told[2 + 2 * days:]
            self.assertEqual(check(case, *rows), [0, 1, told[1]])

    def test_it_changes_nothing(self):
        plan = (CHECK, [2, 0, 0], [1, 1, 0], [1, 0, 0])
        failing = (CHECK, [2, 1, 0], [2, 1, 0], [0, 0, 0])
        told = ask(THREE.opening(), (PLAN,), plan, (PLAN,), failing, (PLAN,), plan)
        self.assertEqual(told[1], told[3])
        self.assertEqual(told[1], told[5])
        self.assertEqual(told[2], told[6])


if __name__ == "__main__":
    unittest.main()
