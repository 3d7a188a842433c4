"""Whole lines of all sixteen calls, by chance, against a house followed in plain ways; and the largest lines."""

import random
import unittest

from tests.helper import (ACT, CARRY, CHECK, COST, COUNTED, DUE, FOUND, HUGE, LOSE, MARGIN, NEED, OPEN, PLAN, PRICE,
                          PROOF, PROVE, RANGES, STATE, WORTH, Case, Model, ask, bound, faults, improve, line_of,
                          model_answers, search, some_case)

MOST_COUNTED = 30


class Writer:
    """Writes a line by chance, call by call, with an eye on the house as the model has it."""

    def __init__(self, seed, case, best_of):
        self.chance = random.Random(seed)
        self.case = case
        self.model = Model(best_of)
        self.calls, self.expected = [], []

    def add(self, call):
        self.calls.append(call)
        self.expected.append(self.model.answer(call))

    def counted(self):
        return sum(call[0] in COUNTED for call in self.calls)

    def wrong_call(self):
        """A call with one of its numbers or lists out of its range."""
        number = self.chance.choice([one for one, ranges in RANGES.items() if ranges])
        parts = []
        for ends in RANGES[number]:
            if len(ends) == 2:
                parts.append(self.chance.randint(*ends))
            else:
                length = self.chance.randint(*ends[2:])
                parts.append([self.chance.randint(*ends[:2]) for place in range(length)])
        place = self.chance.randrange(len(parts))
        ends = RANGES[number][place]
        beyond = self.chance.choice([ends[0] - 1, ends[1] + 1, -HUGE, HUGE])
        if len(ends) == 2:
            parts[place] = beyond
        elif self.chance.random() < 0.5:
            parts[place] = [ends[0]] * self.chance.choice([8, 100])
        else:
            parts[place] = [beyond] * self.chance.randint(1, 100)
        return (number, *parts)

    def length(self):
        left = self.model.days - self.model.today
        return left if self.chance.random() < 0.9 else self.chance.randint(0, 7)

    def row(self, most, least=0):
        return [self.chance.randint(least, most) for place in range(self.length())]

    def few(self, there):
        """Mostly not more than there are."""
        return max(1, self.chance.randint(0, there + 1))

    def act(self):
        model, chance = self.model, self.chance
        if model.today == model.days:
            return (ACT, 0, 0, 0)
        need = model.needs[model.today]
        lacking = max(0, need - model.clean - model.due.get(model.today, 0))
        dirty = model.dirty + need
        f = chance.randint(0, min(999, dirty))
        w = chance.randint(0, min(999, dirty - f))
        return (ACT, max(0, lacking + chance.randint(-1, 2)), f, min(999, w + chance.choice([0, 0, 0, 1])))

    def day(self):
        return self.chance.randint(max(0, self.model.today - 1), min(6, self.model.days))

    def prove(self):
        if self.chance.random() < 0.5 or self.model.today == self.model.days:
            return (PROVE, self.row(4, -1), self.row(4, -1))
        clean = sorted(self.row(min(self.model.prices)), reverse=True)
        return (PROVE, clean, sorted(self.row(6), reverse=True))

    def any_call(self, number):
        chance, case = self.chance, self.case
        return {
            OPEN: lambda: case.opening(),
            NEED: lambda: (NEED, self.day(), chance.randint(0, max(case.needs))),
            PRICE: lambda: (PRICE, self.day(), chance.randint(0, max(case.prices))),
            MARGIN: lambda: (MARGIN, self.day()),
            CHECK: lambda: (CHECK, self.row(3), self.row(1), self.row(1)),
            PROVE: self.prove,
            ACT: self.act,
            LOSE: lambda: (LOSE, self.few(self.model.clean)),
            FOUND: lambda: (FOUND, self.few(self.model.lost)),
            WORTH: lambda: (WORTH, chance.choice([1, 2, 100])),
        }.get(number, lambda: (number,))()

    # The days pass by carry and act alone, so these are rarer.
    WEIGHTS = {OPEN: 1, NEED: 4, PRICE: 4, PLAN: 3, COST: 2, PROOF: 3, MARGIN: 3, CHECK: 4, PROVE: 5, CARRY: 1,
               ACT: 2, LOSE: 4, FOUND: 5, WORTH: 3, STATE: 5, DUE: 5}

    def write(self, count):
        if self.chance.random() < 0.2:
            self.add(self.chance.choice([(COST,), (STATE,), (DUE,), (LOSE, 1), (ACT, 0, 0, 0), (CARRY,)]))
        self.add(self.case.opening())
        while len(self.calls) < count:
            call = self.wrong_call() if self.chance.random() < 0.05 else self.any_call(
                self.chance.choices(list(self.WEIGHTS), list(self.WEIGHTS.values()))[0])
            if call[0] not in COUNTED or self.counted() < MOST_COUNTED:
                self.add(call)
        return self


class ByChance(unittest.TestCase):
    def agree(self, writer):
        told = ask(*writer.calls)
        for place, call in enumerate(writer.calls):
            self.assertEqual(told[place], writer.expected[place], (place, call, writer.calls[:place]))
        self.assertEqual(len(told), len(writer.calls))
        return told

    def test_small_houses_against_a_search(self):
        seen = {}
        for seed in range(150):
            days = 4 if seed % 15 == 0 else 1 + seed % 3
            case = some_case(seed, days, most_need=2, most_sheets=2, most_slow=3)
            writer = Writer(seed, case, search).write(40)
            for call, answer in zip(writer.calls, self.agree(writer), strict=True):
                seen[(call[0], min(answer[0], 0))] = True
        # The lines are of use only if each call is taken, and refused in each way told, somewhere in them.
        refusals = {OPEN: (-1, -3), NEED: (-1, -6), PRICE: (-1, -6), PLAN: (-7,), COST: (-2, -7), PROOF: (-7,),
                    MARGIN: (-1, -6), CHECK: (-1, -5, -7), PROVE: (-1, -5, -7), CARRY: (-2, -7),
                    ACT: (-1, -2, -7, -8), LOSE: (-1, -2, -9), FOUND: (-1, -9), WORTH: (-1, -7), STATE: (-2,),
                    DUE: (-2,)}
        for number, told in refusals.items():
            for refusal in (0, *told):
                self.assertIn((number, refusal), seen)

    def test_large_houses_against_better_rounds(self):
        for seed in range(25):
            chance = random.Random(seed)
            case = some_case(seed, 7, most_need=20, most_sheets=50, most_price=chance.choice([5, 40, 10000]),
                             most_cost=chance.choice([1, 20, 1000]), most_slow=chance.choice([1, 2, 4, 9]))
            self.agree(Writer(seed, case, improve).write(100))


class Promises(unittest.TestCase):
    """What is promised of every line, asked at each place of lines by chance."""

    def look(self, calls, model):
        days = model.days - model.today
        case = model.case()
        plan, cost, proof = ask(*calls, (PLAN,), (COST,), (PROOF,))[-3:]
        rows = [plan[2 + row * days:2 + (row + 1) * days] for row in range(3)]
        prices = (proof[2:2 + days], proof[2 + days:])
        checked, proved = ask(*calls, (CHECK, *rows), (PROVE, *prices))[-2:]
        self.assertEqual((checked, proved), ([0, 1, plan[1]], [0, 1, plan[1]]))
        self.assertEqual((cost[1], proof[1]), (plan[1], plan[1]))
        self.assertEqual((faults(case, *prices), bound(case, *prices)), ([], plan[1]))

    def test_everywhere(self):
        for seed in range(60):
            case = some_case(seed, 1 + seed % 7, most_need=20, most_sheets=50, most_price=30, most_cost=9)
            writer = Writer(seed, case, improve)
            writer.add(case.opening())
            while writer.model.today < writer.model.days and len(writer.calls) < 40:
                self.look(writer.calls, writer.model)
                writer.add(writer.any_call(writer.chance.choice([NEED, PRICE, ACT, ACT, LOSE, FOUND, FOUND])))


class Largest(unittest.TestCase):
    def most_sheets(self, case, found):
        """Six days of as many bought as may be, all lost, and so many times a thousand found."""
        writer = Writer(0, case, improve)
        writer.add(case.opening())
        for day in range(6):
            writer.add((ACT, 999, 0, 0))
        while writer.model.clean:
            writer.add((LOSE, min(1000, writer.model.clean)))
        for thousand in range(found):
            writer.add((FOUND, min(1000, writer.model.lost)))
        return writer

    def ask_all(self, writer):
        for call in ((STATE,), (DUE,), (PLAN,), (COST,), (PROOF,), (MARGIN, 6), (WORTH, 1), (WORTH, 100),
                     (CHECK, [999], [999], [999]), (PROVE, [1000000], [1000000])):
            writer.add(call)
        self.assertEqual(ask(*writer.calls), writer.expected)
        self.assertLessEqual(writer.counted(), MOST_COUNTED)

    def test_as_many_clean_ones_as_can_be(self):
        case = Case(1, 1, 5, 5, 50, 50, [10000] * 7, [0] * 7)
        writer = Writer(0, case, improve)
        writer.add(case.opening())
        for day in range(6):
            writer.add((ACT, 999, 0, 0))
        self.assertEqual(writer.model.clean, 6044)
        self.ask_all(writer)
        writer.add((ACT, 999, 50, 0))
        writer.add((STATE,))
        self.assertEqual(ask(*writer.calls), writer.expected)
        self.assertEqual(writer.expected[-1], [0, 7, 7, 7043, 0, 7 * 9990000 + 250, 6993, 0])

    def test_as_many_dirty_ones_as_can_be(self):
        case = Case(1, 1, 5, 5, 50, 50, [10000] * 7, [0] * 6 + [20])
        writer = self.most_sheets(case, 7)
        self.assertEqual((writer.model.dirty, writer.model.clean), (6094, 0))
        self.ask_all(writer)
        writer.add((ACT, 20, 999, 999))
        writer.add((STATE,))
        writer.add((DUE,))
        self.assertEqual(ask(*writer.calls), writer.expected)
        self.assertEqual(writer.expected[-1], [0, 1998])

    def test_many_dirty_ones_with_days_to_come(self):
        for fast_days, slow_days in ((1, 2), (1, 1), (2, 4)):
            case = Case(fast_days, slow_days, 900, 700, 0, 0, [10, 10000, 9000, 10000, 8000, 10000, 9999], [20] * 7)
            writer = Writer(0, case, improve)
            for call in (case.opening(), (ACT, 999, 20, 0), (ACT, 999, 0, 20), (LOSE, 1000), (LOSE, 900),
                         (FOUND, 1000), (PLAN,), (PROOF,), (FOUND, 900), (PLAN,), (PROOF,), (ACT, 20, 999, 900),
                         (PLAN,), (PROOF,), (WORTH, 100), (MARGIN, 4), (CARRY,), (DUE,), (CARRY,), (STATE,),
                         (CARRY,), (PLAN,), (CARRY,), (STATE,), (DUE,)):
                writer.add(call)
            self.assertEqual(ask(*writer.calls), writer.expected)

    def test_four_hundred_calls(self):
        """30 of them plan, cost, proof, margin, carry or worth, on 7 days with needs of 20."""
        for seed in range(4):
            case = some_case(seed, 7, most_sheets=50, most_price=10000, most_cost=1000, most_slow=3)
            case.needs[:] = [20] * 7
            writer = Writer(seed, case, improve)
            writer.add(case.opening())
            asked = [(PLAN,), (COST,), (PROOF,), (WORTH, 100), (MARGIN, 6)] * 6
            asked[4::5] = [(MARGIN, 6), (CARRY,), (PLAN,), (CARRY,), (WORTH, 1), (CARRY,)]
            asked.reverse()
            while len(writer.calls) < 400:
                if asked and len(writer.calls) % 13 == 0:
                    writer.add(asked.pop())
                else:
                    writer.add(writer.any_call(writer.chance.choice(
                        [NEED, PRICE, LOSE, FOUND, PROVE, CHECK, STATE, DUE])))
            self.assertEqual((len(writer.calls), writer.counted(), asked), (400, MOST_COUNTED, []))
            self.assertEqual(ask(*writer.calls), writer.expected)

    def test_thirty_of_each(self):
        case = Case(1, 2, 10, 3, 0, 0, [9, 10000, 9999, 30, 25, 10000, 17], [20] * 7)
        for call in ((PLAN,), (COST,), (PROOF,), (MARGIN, 3), (WORTH, 1), (WORTH, 100)):
            expected = model_answers([case.opening(), call], improve)[1]
            self.assertEqual(ask(case.opening(), *[call] * 30)[1:], [expected] * 30)
        told = ask(case.opening(), *[(CARRY,)] * 30)[1:]
        self.assertEqual([answer[0] for answer in told], [0] * 7 + [-7] * 23)

    def test_four_hundred_of_what_is_not_counted(self):
        case = Case(1, 2, 10, 3, 50, 50, [9] * 7, [20] * 7)
        for call in ((STATE,), (DUE,), (LOSE, 1), (FOUND, 1), (ACT, 20, 0, 0), (PROVE, [1] * 7, [0] * 7)):
            calls = [case.opening()] + [call] * 399
            self.assertEqual(ask(*calls), model_answers(calls, improve))

    def test_the_longest_lists(self):
        case = Case(1, 2, 10, 3, 0, 0, [9] * 7, [20] * 7)
        for call, count in (((PROVE, [HUGE] * 100, [-HUGE] * 100), 78),
                            ((CHECK, [HUGE] * 100, [-HUGE] * 100, [0] * 100), 52)):
            calls = [case.opening()] + [call] * count + [(STATE,)]
            self.assertLessEqual(len(line_of(calls)), 16000)
            self.assertEqual(ask(*calls)[1:], [[-1]] * count + [[0, 0, 7, 0, 0, 0, 0, 0]])


if __name__ == "__main__":
    unittest.main()
