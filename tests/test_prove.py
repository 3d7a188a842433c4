"""prove: prices that fit and their bound, prices that don't, the first day with a fault and that fault."""

import random
import unittest
from dataclasses import replace
from itertools import product

from tests.helper import (ACT, CARRY, CHECK, COST, FOUND, LOSE, NEED, PRICE, PROOF, PROVE, Case, Model, ask, ask_last,
                          bound, every_plan, faults, faults_of_day, search, some_case)

THREE = Case(1, 2, 3, 1, 0, 0, [10, 10, 10], [2, 1, 2])


def prove(case, clean, dirty, *calls):
    return ask_last(case.opening(), *calls, (PROVE, clean, dirty))


class ByHand(unittest.TestCase):
    # Four days, so that each wash comes back on a day to come from the first day and from a middle one.
    FOUR = Case(1, 2, 3, 1, 4, 3, [10, 9, 8, 7], [2, 1, 2, 5])
    CLEAN, DIRTY = [9, 8, 7, 6], [7, 5, 4, 2]

    # What is changed in prices that fit: {place: price}; clean ones, dirty ones; then the day and all of its faults.
    # The next to last day is the last on which 5 and 6 are asked, the one before it the last for 7; 2 isn't asked
    # on the first day, and 1 on the last needs days before it as dear.
    ONE_FAULT = (
        ({0: 11}, {0: 8}, 0, [1]),
        ({1: 9, 2: 9}, {0: 8, 1: 6}, 2, [1]),
        ({0: 8, 1: 8, 2: 8, 3: 8}, {1: 7, 2: 5}, 3, [1]),
        ({0: 7}, {}, 1, [2]),
        ({1: 6}, {}, 2, [2]),
        ({2: 5}, {}, 3, [2]),
        ({0: -1, 1: -1, 2: -1, 3: -1}, {}, 0, [3]),
        ({1: -1, 2: -1, 3: -1}, {}, 1, [3]),
        ({3: -1}, {}, 3, [3]),
        ({0: 0, 1: 0, 2: 0, 3: 0}, {0: -1, 1: -1, 2: -1, 3: -1}, 0, [4]),
        ({1: 0, 2: 0, 3: 0}, {1: -1, 2: -1, 3: -1}, 1, [4]),
        ({}, {3: -1}, 3, [4]),
        ({}, {1: 8}, 0, [5]),
        ({}, {2: 6}, 1, [5]),
        ({}, {3: 5}, 2, [5]),
        ({0: 10, 1: 9, 2: 6}, {0: 5}, 0, [6]),
        ({0: 8, 1: 8, 2: 8, 3: 4}, {1: 4}, 1, [6]),
        ({}, {2: 2}, 2, [6]),
        ({}, {0: 5}, 0, [7]),
        ({}, {1: 4}, 1, [7]),
    )
    MORE_FAULTS = (
        ({0: 11}, {1: 8}, 0, [1, 5]),
        ({0: 11, 1: 9, 2: 6}, {0: 5}, 0, [1, 6]),
        ({0: 11}, {0: 5}, 0, [1, 7]),
        ({0: 11, 1: 0, 2: 0, 3: 0}, {0: -1, 1: -1, 2: -1, 3: -1}, 0, [1, 4]),
        ({0: 8, 1: 10}, {0: 8}, 1, [1, 2]),
        ({1: 7, 2: 9}, {0: 8, 1: 8}, 2, [1, 2]),
        ({3: 8}, {1: 7, 2: 5}, 3, [1, 2]),
        ({0: 7}, {2: 6}, 1, [2, 5]),
        ({0: 7}, {1: 4}, 1, [2, 7]),
        ({1: 6}, {2: 2}, 2, [2, 6]),
        ({2: 5}, {3: -1}, 3, [2, 4]),
        ({0: -1, 1: -1, 2: -1, 3: -1}, {0: -1, 1: -1, 2: -1, 3: -1}, 0, [3, 4]),
        ({0: -1, 1: -1, 2: -1, 3: -1}, {1: 8}, 0, [3, 5]),
        ({3: -1}, {3: -1}, 3, [3, 4]),
        ({1: 0, 2: 0, 3: 0}, {0: -1}, 0, [4, 5]),
        ({1: 0, 2: 0, 3: 0}, {1: -1}, 1, [4, 5]),
        ({0: 10, 1: 9, 2: 6}, {0: 5, 1: 6}, 0, [5, 6]),
        ({}, {2: 2, 3: 3}, 2, [5, 6]),
        ({}, {0: 5, 1: 6}, 0, [5, 7]),
        ({0: 10, 1: 9}, {0: 5}, 0, [6, 7]),
        ({0: 7, 1: 7, 2: 7, 3: 7}, {1: 3, 2: 4}, 1, [5, 6, 7]),
    )

    def changed(self, clean_changes, dirty_changes):
        clean, dirty = list(self.CLEAN), list(self.DIRTY)
        for place, price in clean_changes.items():
            clean[place] = price
        for place, price in dirty_changes.items():
            dirty[place] = price
        return clean, dirty

    def test_they_fit(self):
        told = 2 * 2 + 1 * 3 + 2 * 3 + 5 * 4 - 4 * 9 - 3 * 7
        self.assertEqual(prove(self.FOUR, self.CLEAN, self.DIRTY), [0, 1, told])

    def test_each_fault(self):
        for clean_changes, dirty_changes, day, numbers in self.ONE_FAULT + self.MORE_FAULTS:
            clean, dirty = self.changed(clean_changes, dirty_changes)
            with self.subTest(clean=clean, dirty=dirty):
                # That it is just these faults, and that no day before has one.
                self.assertEqual(faults_of_day(self.FOUR, clean, dirty, day), numbers)
                self.assertEqual(faults(self.FOUR, clean, dirty)[0][0], day)
                self.assertEqual(prove(self.FOUR, clean, dirty), [0, 0, day, numbers[0]])

    def test_each_fault_when_days_have_been_carried_out(self):
        for before in (1, 2, 3):
            later = replace(self.FOUR, prices=[3] * before + self.FOUR.prices, needs=[0] * before + self.FOUR.needs)
            days = [(ACT, 0, 0, 0)] * before
            self.assertEqual(prove(later, self.CLEAN, self.DIRTY, *days), prove(self.FOUR, self.CLEAN, self.DIRTY))
            for clean_changes, dirty_changes, day, numbers in self.ONE_FAULT + self.MORE_FAULTS:
                clean, dirty = self.changed(clean_changes, dirty_changes)
                self.assertEqual(prove(later, clean, dirty, *days), [0, 0, before + day, numbers[0]])

    def test_every_fault_stands_above(self):
        alone = {(day, numbers[0]) for clean, dirty, day, numbers in self.ONE_FAULT}
        for number, days in ((1, (0, 2, 3)), (2, (1, 2, 3)), (3, (0, 1, 3)), (4, (0, 1, 3)), (5, (0, 1, 2)),
                             (6, (0, 1, 2)), (7, (0, 1))):
            for day in days:
                self.assertIn((day, number), alone)

    def test_a_fault_on_two_days(self):
        self.assertEqual(prove(self.FOUR, [9, 8, 7, 6], [7, 5, 4, -1]), [0, 0, 3, 4])
        self.assertEqual(prove(self.FOUR, [9, 8, 7, 6], [7, 5, 2, -1]), [0, 0, 2, 6])
        self.assertEqual(prove(self.FOUR, [9, 10, 7, 6], [7, 5, 2, -1]), [0, 0, 1, 1])
        self.assertEqual(prove(self.FOUR, [-9, 10, 7, 6], [7, 5, 2, -1]), [0, 0, 0, 3])

    def test_one_day(self):
        case = Case(1, 1, 0, 0, 2, 3, [7], [5])
        self.assertEqual(prove(case, [7], [0]), [0, 1, 21])
        self.assertEqual(prove(case, [7], [4]), [0, 1, 5 * 3 - 2 * 7 - 3 * 4])
        self.assertEqual(prove(case, [8], [0]), [0, 0, 0, 1])
        self.assertEqual(prove(case, [-1], [-1]), [0, 0, 0, 3])
        self.assertEqual(prove(case, [0], [-1]), [0, 0, 0, 4])

    def test_the_largest_prices(self):
        case = Case(1, 1, 1000, 1000, 50, 50, [10000] * 7, [20] * 7)
        most = [1000000] * 7
        self.assertEqual(prove(case, [10000] * 7, most), [0, 1, 140 * -990000 - 500000 - 50000000])
        self.assertEqual(prove(case, most, most), [0, 0, 0, 1])
        self.assertEqual(prove(case, [-1000000] * 7, most), [0, 0, 0, 3])
        self.assertEqual(prove(case, [10000] * 7, [-1000000] * 7), [0, 0, 0, 4])
        self.assertEqual(prove(case, [10000] * 6 + [10001], most), [0, 0, 6, 1])

    def test_washes_behind_the_last_day_are_not_asked(self):
        case = Case(3, 3, 0, 0, 0, 0, [10, 10, 10], [1, 1, 1])
        self.assertEqual(prove(case, [10, 10, 10], [0, 0, 0]), [0, 1, 30])
        self.assertEqual(prove(replace(case, fast_days=2), [10, 10, 10], [0, 0, 0]), [0, 0, 0, 6])
        self.assertEqual(prove(replace(case, fast_days=2), [10, 10, 10], [10, 0, 0]), [0, 1, 20])
        self.assertEqual(prove(replace(case, fast_days=2), [10, 10, 10], [9, 0, 0]), [0, 0, 0, 6])

    def test_after_price_and_need(self):
        self.assertEqual(prove(THREE, [10, 10, 8], [7, 5, 0]), [0, 1, 27])
        self.assertEqual(prove(THREE, [10, 10, 8], [7, 5, 0], (PRICE, 1, 9)), [0, 0, 1, 1])
        self.assertEqual(prove(THREE, [10, 10, 8], [7, 5, 0], (NEED, 1, 2)), [0, 1, 32])

    def test_sheets_due_lost_and_found(self):
        case = replace(THREE, clean=5)
        clean, dirty = [10, 8], [7, 6]
        self.assertEqual(prove(case, clean, dirty, (ACT, 0, 1, 1)), [0, 1, 3 + 4 - 10 - 8 - 30])
        self.assertEqual(prove(case, clean, dirty, (ACT, 0, 1, 1), (LOSE, 2)), [0, 1, 3 + 4 - 10 - 8 - 10])
        self.assertEqual(prove(case, clean, dirty, (ACT, 0, 1, 1), (LOSE, 2), (FOUND, 1)), [0, 1, 7 - 18 - 10 - 7])


# Houses with small numbers: all prices from -1 to 3 are asked, of which each fault is a few.
SMALL = (
    Case(1, 2, 1, 0, 1, 1, [2, 1, 2], [1, 2, 1]),
    Case(1, 1, 0, 1, 0, 2, [1, 2, 2], [2, 1, 2]),
    Case(1, 1, 1, 0, 0, 0, [2, 2, 1], [1, 0, 2]),
    Case(2, 2, 0, 0, 2, 0, [2, 2, 2], [2, 2, 1]),
)


class EverySmallPrice(unittest.TestCase):
    def prices(self):
        return [(list(numbers[:3]), list(numbers[3:])) for numbers in product(range(-1, 4), repeat=6)]

    def told(self, calls, prices):
        answers = []
        for start in range(0, len(prices), 390):
            asked = [(PROVE, clean, dirty) for clean, dirty in prices[start:start + 390]]
            answers += ask(*calls, *asked)[len(calls):]
        return answers

    def test_against_the_words(self):
        prices = self.prices()
        for case in SMALL:
            cost = search(case)[0]
            bounds = []
            for (clean, dirty), answer in zip(prices, self.told([case.opening()], prices), strict=True):
                found = faults(case, clean, dirty)
                if found:
                    self.assertEqual(answer, [0, 0, *found[0]])
                else:
                    self.assertEqual(answer, [0, 1, bound(case, clean, dirty)])
                    bounds.append(answer[2])
            # No plan costs less than the bound of any prices that fit, and one of the bounds is the cost.
            self.assertEqual(max(bounds), cost)

    def test_on_a_later_day(self):
        prices = self.prices()
        for case, act in zip(SMALL, ((ACT, 3, 2, 1), (ACT, 2, 1, 2), (ACT, 4, 0, 2), (ACT, 0, 1, 1)), strict=True):
            longer = replace(case, prices=[2] + case.prices, needs=[2] + case.needs)
            model = Model(search)
            for call in (longer.opening(), act):
                self.assertEqual(model.answer(call)[0], 0)
            later = model.case()
            bounds = []
            for (clean, dirty), answer in zip(prices, self.told([longer.opening(), act], prices), strict=True):
                self.assertEqual(answer, model.answer((PROVE, clean, dirty)))
                if answer[1] == 1:
                    bounds.append(answer[2])
            self.assertEqual(max(bounds), search(later)[0])


class Promises(unittest.TestCase):
    def test_the_prices_told_by_proof(self):
        for seed in range(60):
            chance = random.Random(seed)
            days = chance.randint(1, 7)
            case = some_case(seed, days, most_need=20, most_sheets=chance.choice([0, 50]),
                             most_price=chance.choice([3, 10000]), most_cost=chance.choice([0, 1, 1000]), most_slow=5)
            calls = [case.opening()]
            for day in range(days):
                proof, cost = ask(*calls, (PROOF,), (COST,))[-2:]
                left = days - day
                prices = (PROVE, proof[2:2 + left], proof[2 + left:])
                self.assertEqual(ask_last(*calls, prices), [0, 1, cost[1]])
                self.assertEqual(proof[1], cost[1])
                calls.append((CARRY,) if chance.random() < 0.5 else (ACT, 20, chance.randint(0, case.needs[day]), 0))

    def test_no_plan_costs_less_than_a_bound(self):
        case = Case(1, 1, 1, 0, 1, 0, [2, 1], [1, 1])
        plans = [(CHECK, *plan) for plan in every_plan(case, 2)]
        costs = []
        for start in range(0, len(plans), 390):
            told = ask(case.opening(), *plans[start:start + 390])[1:]
            costs += [answer[2] for answer in told if answer[1] == 1]
        prices = [(PROVE, list(four[:2]), list(four[2:])) for four in product(range(-1, 3), repeat=4)]
        bounds = [answer[2] for answer in ask(case.opening(), *prices)[1:] if answer[1] == 1]
        self.assertGreater(len(bounds), 3)
        self.assertEqual(max(bounds), min(costs))

    def test_by_chance_on_large_houses(self):
        for seed in range(150):
            chance = random.Random(seed)
            days = chance.randint(2, 7)
            case = some_case(seed, days, most_need=20, most_sheets=50, most_price=40, most_cost=20, most_slow=4)
            # Falling prices, so that some of them fit.
            clean = sorted([chance.randint(0, min(case.prices)) for day in range(days)], reverse=True)
            clean[chance.randrange(days)] += chance.choice([0, 0, 0, 1, 30, -30])
            dirty = sorted([chance.randint(0, 30) for day in range(days)], reverse=True)
            found = faults(case, clean, dirty)
            expected = [0, 0, *found[0]] if found else [0, 1, bound(case, clean, dirty)]
            self.assertEqual(prove(case, clean, dirty), expected)
            if not found:
                self.assertLessEqual(expected[2], ask_last(case.opening(), (COST,))[1])


if __name__ == "__main__":
    unittest.main()
