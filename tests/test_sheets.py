"""lose, found and worth: sheets that are gone, come back dirty, or would be there beside the others."""

import random
import unittest
from dataclasses import replace

from tests.helper import (ACT, CARRY, COST, DUE, FOUND, LOSE, MARGIN, PLAN, PROOF, STATE, WORTH, Case, ask, ask_last,
                          improve, model_answers, search, some_case)


class Lost(unittest.TestCase):
    CASE = Case(1, 2, 3, 1, 5, 2, [10, 10, 10], [2, 1, 2])

    def test_all_of_the_clean_ones_and_one_more(self):
        self.assertEqual(ask_last(self.CASE.opening(), (LOSE, 5)), [0, 0])
        self.assertEqual(ask_last(self.CASE.opening(), (LOSE, 6)), [-9])
        told = ask(self.CASE.opening(), (LOSE, 2), (LOSE, 4), (LOSE, 3), (LOSE, 1), (STATE,))
        self.assertEqual(told[1:], [[0, 3], [-9], [0, 0], [-9], [0, 0, 3, 0, 2, 0, 0, 5]])

    def test_all_of_the_lost_ones_and_one_more(self):
        calls = (self.CASE.opening(), (LOSE, 4))
        self.assertEqual(ask_last(*calls, (FOUND, 4)), [0, 6])
        self.assertEqual(ask_last(*calls, (FOUND, 5)), [-9])
        told = ask(*calls, (FOUND, 1), (FOUND, 4), (FOUND, 3), (FOUND, 1), (STATE,))
        self.assertEqual(told[2:], [[0, 3], [-9], [0, 6], [-9], [0, 0, 3, 1, 6, 0, 0, 0]])

    def test_nothing_is_lost_at_first(self):
        self.assertEqual(ask(self.CASE.opening(), (FOUND, 1), (FOUND, 1000))[1:], [[-9], [-9]])

    def test_dirty_ones_and_due_ones_are_not_lost(self):
        case = replace(self.CASE, clean=0, dirty=50)
        self.assertEqual(ask_last(case.opening(), (LOSE, 1)), [-9])
        told = ask(self.CASE.opening(), (ACT, 0, 2, 0), (LOSE, 4), (LOSE, 3), (DUE,), (STATE,))
        self.assertEqual(told[2:], [[-9], [0, 0], [0, 2, 0, 0], [0, 1, 3, 0, 2, 6, 0, 3]])

    def test_found_ones_are_dirty(self):
        told = ask(self.CASE.opening(), (LOSE, 5), (FOUND, 5), (LOSE, 1), (STATE,))
        self.assertEqual(told[1:], [[0, 0], [0, 7], [-9], [0, 0, 3, 0, 7, 0, 0, 0]])
        # They can be sent away on the same day.
        self.assertEqual(ask_last(self.CASE.opening(), (LOSE, 5), (FOUND, 5), (ACT, 2, 9, 0)), [0, 47])
        self.assertEqual(ask_last(self.CASE.opening(), (LOSE, 5), (FOUND, 5), (ACT, 2, 10, 0)), [-8])

    def test_found_ones_are_washed_by_the_plan(self):
        case = Case(1, 2, 3, 1, 2, 0, [10, 10, 10], [0, 2, 0])
        told = ask(case.opening(), (PLAN,), (LOSE, 2), (PLAN,), (FOUND, 1), (PLAN,), (FOUND, 1), (PLAN,))
        self.assertEqual(told[1::2], [
            [0, 0] + [0] * 9, [0, 20, 0, 2, 0] + [0] * 6, [0, 13, 0, 1, 0, 1, 0, 0] + [0] * 3,
            [0, 6, 0, 0, 0, 2, 0, 0] + [0] * 3])

    def test_they_cost_nothing_and_are_not_bought(self):
        told = ask(self.CASE.opening(), (ACT, 1, 0, 0), (LOSE, 4), (FOUND, 2), (STATE,))
        self.assertEqual(told[-1], [0, 1, 3, 0, 6, 10, 1, 2])

    def test_the_plan_is_as_if_opened_so(self):
        look = ((PLAN,), (COST,), (PROOF,), (MARGIN, 0), (WORTH, 1))
        for seed in range(40):
            case = some_case(seed, 1 + seed % 7, most_need=20, most_sheets=50, most_price=30, most_cost=9)
            if case.clean >= 2:
                lost = random.Random(seed).randint(2, case.clean)
                told = ask(case.opening(), (LOSE, lost), *look, (FOUND, lost - 1), *look)
                less = replace(case, clean=case.clean - lost)
                self.assertEqual(told[2:7], ask(less.opening(), *look)[1:])
                if less.dirty + lost - 1 <= 50:
                    found = replace(less, dirty=less.dirty + lost - 1)
                    self.assertEqual(told[8:], ask(found.opening(), *look)[1:])


class Worth(unittest.TestCase):
    def test_by_hand(self):
        case = Case(1, 1, 4, 4, 0, 0, [10, 10], [3, 3])
        # 3 bought and 3 washed cost 42. The first 3 more need not be bought, the next 3 not be washed for.
        worths = [ask_last(case.opening(), (WORTH, number)) for number in (1, 2, 3, 4, 5, 6, 7, 100)]
        self.assertEqual(worths, [[0, worth] for worth in (10, 20, 30, 34, 38, 42, 42, 42)])

    def test_nothing_is_lacking(self):
        case = Case(1, 1, 4, 4, 6, 0, [10, 10], [3, 3])
        self.assertEqual(ask(case.opening(), (WORTH, 1), (WORTH, 100))[1:], [[0, 0], [0, 0]])

    def test_by_the_costs_with_and_without(self):
        for seed in range(40):
            case = some_case(seed, 1 + seed % 7, most_need=20, most_sheets=20, most_price=50, most_cost=20)
            for number in (1, 2, 30):
                cost, worth = ask(case.opening(), (COST,), (WORTH, number))[1:]
                more = ask_last(replace(case, clean=case.clean + number).opening(), (COST,))
                self.assertEqual(worth, [0, cost[1] - more[1]])

    def test_against_a_search(self):
        for seed in range(60):
            case = some_case(seed, 1 + seed % 3)
            told = ask(case.opening(), (WORTH, 1), (WORTH, 2), (WORTH, 100))[1:]
            costs = [search(replace(case, clean=case.clean + number))[0] for number in (0, 1, 2, 100)]
            self.assertEqual(told, [[0, costs[0] - cost] for cost in costs[1:]])

    def test_on_large_houses_and_later_days(self):
        for seed in range(30):
            case = some_case(seed, 7, most_need=20, most_sheets=0, most_price=10000, most_cost=1000, most_slow=3)
            calls = [case.opening()] + [(CARRY,)] * (seed % 7) + [(WORTH, 1), (WORTH, 99), (WORTH, 100)]
            self.assertEqual(ask(*calls), model_answers(calls, improve))

    def test_clean_now_is_not_due_later(self):
        # On the first day it is worth a new sheet; once that day is over, only what the last day needs.
        case = Case(2, 2, 1, 1, 0, 0, [9, 5], [1, 1])
        self.assertEqual(ask(case.opening(), (WORTH, 1), (WORTH, 2), (CARRY,), (WORTH, 1), (CARRY,), (WORTH, 1))[1:], [
            [0, 9], [0, 14], [0, 1, 0, 0, 9], [0, 5], [0, 1, 0, 0, 5], [-7]])

    def test_a_hundred_at_the_dearest_house(self):
        case = Case(5, 9, 1000, 1000, 0, 0, [10000] * 7, [20] * 7)
        self.assertEqual(ask(case.opening(), (COST,), (WORTH, 100), (WORTH, 1))[1:], [
            [0, 1040000], [0, 1000000], [0, 10000]])


if __name__ == "__main__":
    unittest.main()
