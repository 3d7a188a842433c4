"""The interface: how calls and answers stand, that nothing handed in is changed, and the longest lines."""

import random
import unittest

from tests.helper import (CHECK, COST, HUGE, MARGIN, NEED, OPEN, PLAN, PRICE, PROOF, Case, ask, improve, line_of,
                          some_case, split_answers)
from washedsheets.desk import answers

EXAMPLE = [0, 1, 2, 3, 1, 0, 0, 3, 10, 10, 10, 3, 2, 1, 2]


class Watched(list):
    """A list that fails at the first try to change it."""

    def refuse(self, *given):
        raise AssertionError("the list handed in was changed")

    __setitem__ = __delitem__ = __iadd__ = __imul__ = refuse
    append = extend = insert = pop = remove = clear = sort = reverse = refuse


class Shape(unittest.TestCase):
    def test_the_example(self):
        told = answers(EXAMPLE + [3] + [5])
        self.assertEqual(told, [1, 0, 11, 0, 27, 2, 0, 0, 1, 1, 0, 1, 0, 0, 8, 0, 27, 10, 10, 8, 7, 5, 0])

    def test_each_call(self):
        self.assertEqual(answers(EXAMPLE + [1, 0, 1]), [1, 0, 1, 0])
        self.assertEqual(answers(EXAMPLE + [2, 0, 1]), [1, 0, 1, 0])
        self.assertEqual(answers(EXAMPLE + [4]), [1, 0, 2, 0, 27])
        self.assertEqual(answers(EXAMPLE + [6, 1]), [1, 0, 2, 0, 5])
        check = [7, 3, 2, 0, 0, 3, 1, 1, 0, 3, 1, 0, 0]
        self.assertEqual(answers(EXAMPLE + check), [1, 0, 3, 0, 1, 27])
        self.assertEqual(answers([4] + EXAMPLE + [0] + EXAMPLE[1:] + [6, 3]), [1, -2, 1, 0, 1, -3, 1, -6])
        self.assertEqual(answers(EXAMPLE + [7, 0, 1, 0, 0] + [4]), [1, 0, 1, -5, 2, 0, 27])

    def test_whole_numbers_alone(self):
        told = answers(EXAMPLE + [3, 4, 5, 6, 0, 7, 3, 2, 0, 0, 3, 1, 1, 0, 3, 1, 0, 0, 7, 3, 0, 0, 0, 3, 0, 0, 0,
                                  3, 0, 0, 0, 6, 3])
        self.assertIs(type(told), list)
        self.assertEqual({type(number) for number in told}, {int})


class NothingKept(unittest.TestCase):
    LINE = line_of([
        (OPEN, 1, 2, 3, 1, 0, 0, [10, 10, 10], [2, 1, 2]), (PLAN,), (PROOF,), (MARGIN, 1), (NEED, 1, 5),
        (PRICE, 0, 1), (PLAN,), (CHECK, [2, 0, 0], [1, 1, 0], [1, 0, 0]), (CHECK, [9, 9, 9], [1, 1, 0], [1, 0, 0]),
        (OPEN, 1, 2, 3, 1, 0, 0, [10, 10, 10], [2, 1, 2]), (COST,),
    ])

    def test_the_list_is_the_same_afterwards(self):
        line = list(self.LINE)
        answers(line)
        self.assertEqual(line, self.LINE)

    def test_the_list_is_not_changed_for_a_while_either(self):
        self.assertEqual(answers(Watched(self.LINE)), answers(self.LINE))

    def test_twice_the_same(self):
        line = list(self.LINE)
        self.assertEqual(answers(line), answers(line))

    def test_each_line_has_a_house_of_its_own(self):
        answers(self.LINE)
        self.assertEqual(answers([4]), [1, -2])
        self.assertEqual(answers(EXAMPLE + [4]), [1, 0, 2, 0, 27])

    def test_what_is_given_back_is_ones_own(self):
        told = answers(self.LINE)
        again = list(told)
        told.clear()
        self.assertEqual(answers(self.LINE), again)


class LongestLines(unittest.TestCase):
    def test_four_hundred_calls(self):
        for seed in range(3):
            chance = random.Random(seed)
            case = some_case(seed, 7, most_need=20, most_sheets=50, most_price=10000, most_cost=1000, most_slow=3)
            case.needs[:] = [20] * 7
            calls = [case.opening()]
            asked = [(PLAN,), (COST,), (PROOF,)] * 8 + [(MARGIN, day) for day in range(6)]
            for place in range(399):
                if place % 13 == 0 and asked:
                    calls.append(asked.pop())
                elif place % 3 == 0:
                    calls.append((NEED, chance.randint(0, 6), chance.randint(10, 20)))
                elif place % 3 == 1:
                    calls.append((PRICE, chance.randint(0, 6), chance.randint(0, 10000)))
                else:
                    calls.append((CHECK, [20] * 7, [0] * 7, [0] * 7))
            self.assertEqual((len(calls), asked), (400, []))
            self.follow(case, calls)

    def follow(self, case, calls):
        told = ask(*calls)
        self.assertEqual(len(told), 400)
        for call, answer in zip(calls[1:], told[1:]):
            if call[0] == NEED:
                case.needs[call[1]] = call[2]
            elif call[0] == PRICE:
                case.prices[call[1]] = call[2]
            elif call[0] == CHECK:
                self.assertEqual(answer, [0, 1, 20 * sum(case.prices)])
            elif call[0] == MARGIN:
                more = improve(case.with_need(call[1], case.needs[call[1]] + 1))
                self.assertEqual(answer, [0, more[0] - improve(case)[0]])
            else:
                self.assertEqual(answer[:2], [0, improve(case)[0]])

    def test_thirty_of_each_at_the_largest_house(self):
        case = Case(1, 2, 10, 3, 0, 0, [9, 10000, 9999, 30, 25, 10000, 17], [20] * 7)
        best = improve(case)
        for call in ((PLAN,), (COST,), (PROOF,)):
            told = ask(case.opening(), *[call] * 30)[1:]
            self.assertEqual([answer[:2] for answer in told], [[0, best[0]]] * 30)

    def test_sixteen_thousand_numbers(self):
        case = Case(1, 2, 10, 3, 0, 0, [9] * 7, [20] * 7)
        calls = [case.opening()] + [(CHECK, [HUGE] * 100, [-HUGE] * 100, [0] * 100)] * 52 + [(COST,)]
        line = line_of(calls)
        self.assertLessEqual(len(line), 16000)
        told = split_answers(answers(line))
        self.assertEqual(told[1:], [[-1]] * 52 + [[0, improve(case)[0]]])


if __name__ == "__main__":
    unittest.main()
