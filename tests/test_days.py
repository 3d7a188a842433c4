"""carry, act, state and due: days carried out, when they can be, and what there is afterwards."""

import random
import unittest

from tests.helper import (ACT, CARRY, CHECK, COST, DUE, FOUND, LOSE, MARGIN, NEED, PLAN, PRICE, PROOF, STATE, WORTH,
                          Case, Model, ask, ask_last, improve, model_answers, search, some_case)

THREE = Case(1, 2, 3, 1, 0, 0, [10, 11, 12], [2, 1, 2])


def state_and_due(case, *calls):
    """What the last call answers, then state's and due's numbers."""
    last, state, due = ask(case.opening(), *calls, (STATE,), (DUE,))[-3:]
    return last, state[1:], due[1:]


class NewHouse(unittest.TestCase):
    def test_state_and_due(self):
        self.assertEqual(state_and_due(THREE), ([0], [0, 3, 0, 0, 0, 0, 0], [0, 0, 0, 0]))
        one = Case(5, 9, 1000, 1000, 50, 49, [10000], [20])
        self.assertEqual(state_and_due(one), ([0], [0, 1, 50, 49, 0, 0, 0], [0, 0]))
        seven = Case(1, 1, 0, 0, 7, 8, [1] * 7, [1] * 7)
        self.assertEqual(state_and_due(seven), ([0], [0, 7, 7, 8, 0, 0, 0], [0] * 8))

    def test_they_do_not_change_with_need_and_price(self):
        self.assertEqual(state_and_due(THREE, (NEED, 0, 9), (PRICE, 0, 9)), ([0], [0, 3, 0, 0, 0, 0, 0], [0] * 4))


class Act(unittest.TestCase):
    def test_clean_ones_just_enough_and_one_short(self):
        self.assertEqual(ask_last(THREE.opening(), (ACT, 2, 0, 0)), [0, 20])
        self.assertEqual(ask_last(THREE.opening(), (ACT, 1, 0, 0)), [-8])
        case = Case(1, 1, 0, 0, 3, 5, [10, 10], [5, 5])
        self.assertEqual(ask_last(case.opening(), (ACT, 2, 0, 0)), [0, 20])
        self.assertEqual(ask_last(case.opening(), (ACT, 1, 0, 0)), [-8])
        case = Case(1, 1, 0, 0, 5, 0, [10, 10], [5, 5])
        self.assertEqual(ask_last(case.opening(), (ACT, 0, 0, 0)), [0, 0])
        self.assertEqual(ask_last(case.opening(), (LOSE, 1), (ACT, 0, 0, 0)), [-8])

    def test_dirty_ones_just_enough_and_one_short(self):
        case = Case(1, 2, 3, 1, 4, 2, [10, 10], [4, 0])
        for f, w in ((6, 0), (0, 6), (3, 3), (5, 1)):
            self.assertEqual(ask_last(case.opening(), (ACT, 0, f, w)), [0, 3 * f + w])
            self.assertEqual(ask_last(case.opening(), (ACT, 0, f + 1, w)), [-8])
            self.assertEqual(ask_last(case.opening(), (ACT, 0, f, w + 1)), [-8])
            self.assertEqual(ask_last(case.opening(), (ACT, 999, f, w + 1)), [-8])

    def test_what_is_bought_and_not_used_is_not_dirty(self):
        case = Case(1, 1, 0, 0, 0, 0, [1, 1], [2, 0])
        self.assertEqual(ask_last(case.opening(), (ACT, 9, 3, 0)), [-8])
        self.assertEqual(state_and_due(case, (ACT, 9, 2, 0)), ([0, 9], [1, 2, 7, 0, 9, 9, 0], [2, 0]))

    def test_due_sheets_are_clean_in_the_morning(self):
        case = Case(1, 1, 1, 1, 3, 0, [9, 9, 9], [3, 3, 3])
        self.assertEqual(ask_last(case.opening(), (ACT, 0, 3, 0), (ACT, 0, 0, 0)), [0, 0])
        self.assertEqual(ask_last(case.opening(), (ACT, 0, 2, 0), (ACT, 0, 0, 0)), [-8])
        self.assertEqual(ask_last(case.opening(), (ACT, 0, 2, 0), (ACT, 1, 0, 0)), [0, 9])

    def test_due_sheets_are_not_among_the_clean_ones_before(self):
        case = Case(1, 1, 1, 1, 3, 0, [9, 9, 9], [3, 0, 3])
        told, state, due = state_and_due(case, (ACT, 0, 3, 0))
        self.assertEqual((state[2], due), (0, [3, 0, 0]))
        self.assertEqual(ask_last(case.opening(), (ACT, 0, 3, 0), (LOSE, 1)), [-9])
        self.assertEqual(ask_last(case.opening(), (ACT, 0, 3, 0), (ACT, 0, 0, 0), (LOSE, 3)), [0, 0])

    def test_more_bought_than_needed(self):
        self.assertEqual(state_and_due(THREE, (ACT, 999, 0, 0)), ([0, 9990], [1, 3, 997, 2, 9990, 999, 0], [0, 0, 0]))
        told, state, due = state_and_due(THREE, (ACT, 999, 0, 0), (ACT, 999, 0, 0), (ACT, 999, 0, 0))
        self.assertEqual((told, state, due), ([0, 11988], [3, 3, 2992, 5, 999 * 33, 2997, 0], [0]))
        self.assertEqual(ask_last(THREE.opening(), (ACT, 5, 0, 0), (PLAN,)), [0, 0] + [0] * 6)

    def test_washes_due_on_a_day_to_come_and_behind_the_last(self):
        case = Case(2, 3, 4, 2, 9, 9, [10, 20, 30, 40], [5, 1, 2, 0])
        days = ((ACT, 0, 3, 1), (ACT, 1, 0, 2), (ACT, 0, 1, 1), (ACT, 0, 2, 3))
        self.assertEqual(state_and_due(case, *days[:1]), ([0, 14], [1, 4, 4, 10, 14, 0, 0], [0, 3, 1, 0]))
        self.assertEqual(state_and_due(case, *days[:2]), ([0, 24], [2, 4, 4, 9, 38, 1, 0], [3, 1, 2]))
        self.assertEqual(state_and_due(case, *days[:3]), ([0, 6], [3, 4, 5, 9, 44, 1, 0], [1, 4]))
        self.assertEqual(state_and_due(case, *days), ([0, 14], [4, 4, 6, 4, 58, 1, 0], [9]))

    def test_both_washes_come_back_on_one_day(self):
        case = Case(2, 2, 4, 2, 5, 5, [10] * 3, [0] * 3)
        self.assertEqual(state_and_due(case, (ACT, 0, 2, 3)), ([0, 14], [1, 3, 5, 0, 14, 0, 0], [0, 5, 0]))
        case = Case(1, 2, 4, 2, 5, 5, [10] * 3, [0] * 3)
        days = ((ACT, 0, 0, 3), (ACT, 0, 2, 0))
        self.assertEqual(state_and_due(case, *days), ([0, 8], [2, 3, 5, 0, 14, 0, 0], [5, 0]))

    def test_the_longest_washes_of_the_last_day(self):
        case = Case(5, 9, 1, 1, 0, 50, [1] * 7, [0] * 7)
        days = [(ACT, 0, 0, 0)] * 6
        self.assertEqual(state_and_due(case, *days, (ACT, 0, 20, 30)), ([0, 50], [7, 7, 0, 0, 50, 0, 0], [50]))
        self.assertEqual(state_and_due(case, *days, (ACT, 0, 0, 50))[2], [50])
        self.assertEqual(state_and_due(case, *days, (ACT, 0, 50, 0))[2], [50])

    def test_behind_the_last_day_from_both_washes_and_several_days(self):
        case = Case(1, 3, 1, 1, 9, 9, [1, 1], [2, 3])
        self.assertEqual(state_and_due(case, (ACT, 0, 1, 2))[2], [1, 2])
        self.assertEqual(state_and_due(case, (ACT, 0, 1, 2), (ACT, 0, 3, 4))[1:], ([2, 2, 5, 4, 10, 0, 0], [9]))

    def test_it_is_the_day_s_own_price(self):
        self.assertEqual([ask(THREE.opening(), *[(ACT, 9, 0, 0)] * 3)[day] for day in (1, 2, 3)],
                         [[0, 90], [0, 99], [0, 108]])
        self.assertEqual(ask_last(THREE.opening(), (PRICE, 0, 7), (ACT, 2, 0, 0)), [0, 14])
        self.assertEqual(ask_last(THREE.opening(), (NEED, 0, 0), (ACT, 0, 0, 0)), [0, 0])

    def test_need_and_price_change_days_to_come_alone(self):
        told = ask(THREE.opening(), (ACT, 2, 0, 0), (NEED, 0, 9), (PRICE, 0, 9), (NEED, 1, 3), (PRICE, 1, 9),
                   (ACT, 3, 0, 0), (STATE,))
        self.assertEqual(told[1:], [[0, 20], [-6], [-6], [0], [0], [0, 27], [0, 2, 3, 0, 5, 47, 5, 0]])


class ActThenAsk(unittest.TestCase):
    """Days that no plan would choose, then all that can be asked, against a plain search from there."""

    def asked(self, model, chance):
        days = model.days - model.today
        plan = [[chance.randint(0, most) for day in range(days)] for most in (2, 1, 1)]
        calls = [(PLAN,), (COST,), (PROOF,), (WORTH, 1), (WORTH, 3), (CHECK, *plan), (STATE,), (DUE,)]
        if days:
            best = model.best()
            calls.append((CHECK, *best[1:]))
        return calls + [(MARGIN, day) for day in range(model.today, model.days)]

    def follow(self, case, best_of, seed, most):
        chance = random.Random(seed)
        model = Model(best_of)
        calls = [case.opening()]
        model.answer(calls[0])
        for day in range(chance.randint(1, case.days)):
            lacking = max(0, model.needs[day] - model.clean - model.due.get(day, 0))
            f = chance.randint(0, min(most, model.dirty + model.needs[day]))
            w = chance.randint(0, min(most, model.dirty + model.needs[day] - f))
            calls.append((ACT, lacking + chance.randint(0, 1), f, w))
            self.assertEqual(model.answer(calls[-1])[0], 0)
        asked = self.asked(model, chance)
        with self.subTest(case=case, calls=calls):
            self.assertEqual(ask(*calls, *asked)[len(calls):], [model.answer(call) for call in asked])

    def test_small_houses(self):
        for seed in range(120):
            self.follow(some_case(seed, 2 + seed % 3, most_need=2, most_sheets=1), search, seed, 2)

    def test_large_houses(self):
        for seed in range(40):
            case = some_case(seed, 7, most_need=20, most_sheets=50, most_price=30, most_cost=9, most_slow=4)
            self.follow(case, improve, seed, 30)


class Carry(unittest.TestCase):
    def test_the_example(self):
        case = Case(1, 2, 3, 1, 0, 0, [10, 10, 10], [2, 1, 2])
        told = ask(case.opening(), (CARRY,), (STATE,), (DUE,), (CARRY,), (STATE,), (DUE,), (CARRY,), (STATE,), (DUE,))
        self.assertEqual(told[1:], [
            [0, 2, 1, 1, 24], [0, 1, 3, 0, 0, 24, 2, 0], [0, 1, 1, 0],
            [0, 0, 1, 0, 3], [0, 2, 3, 0, 0, 27, 2, 0], [0, 2, 0],
            [0, 0, 0, 0, 0], [0, 3, 3, 0, 2, 27, 2, 0], [0, 0],
        ])

    def through(self, case):
        """Day by day. 28 of the calls are such of which a line has at most 30."""
        calls = [case.opening()]
        for day in range(case.days):
            calls += [(PLAN,), (COST,), (STATE,), (CARRY,)]
        ending = [(PLAN,), (COST,), (PROOF,), (CARRY,), (ACT, 0, 0, 0), (WORTH, 1)]
        told = ask(*calls, *ending, (MARGIN, case.days - 1), (STATE,))[1:]
        first = told[0]
        for day in range(case.days):
            plan, cost, state, carried = told[4 * day:4 * day + 4]
            left = case.days - day
            rows = [plan[2 + row * left:2 + (row + 1) * left] for row in range(3)]
            b, f, w = [row[0] for row in rows]
            paid = b * case.prices[day] + f * case.fast_cost + w * case.slow_cost
            self.assertEqual(carried, [0, b, f, w, paid])
            self.assertEqual((cost[1], state[5] + cost[1]), (plan[1], first[1]))
            # As long as nothing else happens, the plan that was told first is kept to.
            kept = [first[2 + row * case.days + day:2 + (row + 1) * case.days] for row in range(3)]
            self.assertEqual(rows, kept)
        self.assertEqual(told[4 * case.days:-2], [[-7]] * 6)
        self.assertEqual(told[-2], [-6])
        self.assertEqual(told[-1][5:7], [first[1], sum(first[2:2 + case.days])])

    def test_day_by_day(self):
        for seed in range(120):
            chance = random.Random(seed)
            self.through(some_case(
                seed, chance.randint(1, 7), most_need=chance.choice([1, 3, 20]), most_sheets=chance.choice([0, 3, 50]),
                most_price=chance.choice([0, 2, 20, 10000]), most_cost=chance.choice([0, 1, 10, 1000]),
                most_slow=chance.choice([1, 2, 3, 9])))

    def test_the_largest_house(self):
        self.through(Case(1, 2, 1000, 500, 0, 0, [10000] * 7, [20] * 7))
        self.through(Case(1, 1, 0, 0, 50, 50, [0] * 7, [20] * 7))
        self.through(Case(5, 9, 0, 0, 0, 0, [1] * 7, [0] * 7))

    def test_planned_anew_when_something_else_happens(self):
        case = Case(1, 1, 2, 2, 2, 0, [9, 9, 9], [1, 1, 1])
        self.assertEqual(ask_last(case.opening(), (CARRY,), (PLAN,)), [0, 2] + [0, 0, 0, 0, 1, 0])
        for between, told in (
                ((LOSE, 1), [0, 9 + 2, 1, 0, 0, 0, 1, 0]),
                ((NEED, 1, 2), [0, 9 + 2, 1, 0, 0, 0, 1, 0]),
                ((PRICE, 2, 1), [0, 1, 0, 1, 0, 0, 0, 0]),
                ((PRICE, 1, 1), [0, 1, 1, 0, 0, 0, 0, 0]),
                ((NEED, 2, 0), [0, 0, 0, 0, 0, 0, 0, 0])):
            calls = [case.opening(), (CARRY,), between, (PLAN,), (CARRY,), (STATE,), (CARRY,), (STATE,)]
            expected = model_answers(calls, search)
            self.assertEqual(ask(*calls), expected)
            self.assertEqual(expected[3], told)

    def test_found_ones_are_washed_by_the_plan(self):
        case = Case(1, 2, 3, 1, 2, 0, [10, 10, 10], [0, 0, 2])
        calls = ((LOSE, 2), (COST,), (FOUND, 2), (COST,), (CARRY,), (DUE,), (CARRY,), (CARRY,), (STATE,))
        self.assertEqual(ask(case.opening(), *calls)[1:], [
            [0, 0], [0, 20], [0, 2], [0, 2], [0, 0, 0, 2, 2], [0, 0, 2, 0], [0, 0, 0, 0, 0], [0, 0, 0, 0, 0],
            [0, 3, 3, 0, 2, 2, 0, 0]])


if __name__ == "__main__":
    unittest.main()
