"""The interface: how calls and answers stand, that nothing handed in is changed, and nothing is kept."""

import unittest

from tests.helper import (ACT, CARRY, CHECK, COST, DUE, FOUND, LOSE, MARGIN, NEED, OPEN, PLAN, PRICE, PROOF, PROVE,
                          STATE, WORTH, ask, line_of)
from washedsheets.desk import answers

EXAMPLE = [0, 1, 2, 3, 1, 0, 0, 3, 10, 10, 10, 3, 2, 1, 2]


class Watched(list):
    """A list that fails at the first try to change it."""

    def refuse(self, *given):
        raise AssertionError("the list handed in was changed")

    __setitem__ = __delitem__ = __iadd__ = __imul__ = refuse
    append = extend = insert = pop = remove = clear = sort = reverse = refuse


class Shape(unittest.TestCase):
    def test_the_example(self):
        told = answers(EXAMPLE + [3] + [5])
        self.assertEqual(told, [1, 0, 11, 0, 27, 2, 0, 0, 1, 1, 0, 1, 0, 0, 8, 0, 27, 10, 10, 8, 7, 5, 0])

    def test_each_call(self):
        self.assertEqual(answers(EXAMPLE + [1, 0, 1]), [1, 0, 1, 0])
        self.assertEqual(answers(EXAMPLE + [2, 0, 1]), [1, 0, 1, 0])
        self.assertEqual(answers(EXAMPLE + [4]), [1, 0, 2, 0, 27])
        self.assertEqual(answers(EXAMPLE + [6, 1]), [1, 0, 2, 0, 5])
        check = [7, 3, 2, 0, 0, 3, 1, 1, 0, 3, 1, 0, 0]
        self.assertEqual(answers(EXAMPLE + check), [1, 0, 3, 0, 1, 27])
        self.assertEqual(answers([4] + EXAMPLE + [0] + EXAMPLE[1:] + [6, 3]), [1, -2, 1, 0, 1, -3, 1, -6])
        self.assertEqual(answers(EXAMPLE + [7, 0, 1, 0, 0] + [4]), [1, 0, 1, -5, 2, 0, 27])
        self.assertEqual(answers(EXAMPLE + [8, 3, 10, 10, 8, 3, 7, 5, 0]), [1, 0, 3, 0, 1, 27])
        self.assertEqual(answers(EXAMPLE + [8, 3, 10, 10, 8, 3, 7, 4, 0]), [1, 0, 4, 0, 0, 1, 6])
        self.assertEqual(answers(EXAMPLE + [8, 0, 1, 0] + [14]), [1, 0, 1, -5, 8, 0, 0, 3, 0, 0, 0, 0, 0])
        self.assertEqual(answers(EXAMPLE + [9]), [1, 0, 5, 0, 2, 1, 1, 24])
        self.assertEqual(answers(EXAMPLE + [10, 3, 1, 0]), [1, 0, 2, 0, 33])
        self.assertEqual(answers(EXAMPLE + [10, 3, 0, 0, 11, 1, 12, 1]), [1, 0, 2, 0, 30, 2, 0, 0, 2, 0, 3])
        self.assertEqual(answers(EXAMPLE + [13, 2]), [1, 0, 2, 0, 20])
        self.assertEqual(answers(EXAMPLE + [14]), [1, 0, 8, 0, 0, 3, 0, 0, 0, 0, 0])
        self.assertEqual(answers(EXAMPLE + [15]), [1, 0, 5, 0, 0, 0, 0, 0])
        self.assertEqual(answers(EXAMPLE + [10, 2, 1, 1, 15]), [1, 0, 2, 0, 24, 4, 0, 1, 1, 0])

    def test_as_many_numbers_as_there_are_days_to_come(self):
        told = ask((OPEN, 1, 2, 3, 1, 0, 0, [10] * 7, [2] * 7), *[(PLAN,), (PROOF,), (DUE,), (CARRY,)] * 7, (DUE,))
        for day in range(7):
            counts = [len(answer) for answer in told[1 + 4 * day:5 + 4 * day]]
            self.assertEqual(counts, [2 + 3 * (7 - day), 2 + 2 * (7 - day), 2 + 7 - day, 5])
        self.assertEqual(len(told[-1]), 2)

    def test_whole_numbers_alone(self):
        told = answers(EXAMPLE + [3, 4, 5, 6, 0, 7, 3, 2, 0, 0, 3, 1, 1, 0, 3, 1, 0, 0, 7, 3, 0, 0, 0, 3, 0, 0, 0,
                                  3, 0, 0, 0, 6, 3, 8, 3, 10, 10, 8, 3, 7, 5, 0, 8, 3, 10, 10, 8, 3, 7, 4, 0,
                                  9, 10, 9, 0, 1, 10, 0, 9, 9, 11, 1, 12, 1, 13, 1, 14, 15])
        self.assertIs(type(told), list)
        self.assertEqual({type(number) for number in told}, {int})


class NothingKept(unittest.TestCase):
    LINE = line_of([
        (OPEN, 1, 2, 3, 1, 0, 0, [10, 10, 10], [2, 1, 2]), (PLAN,), (PROOF,), (MARGIN, 1), (NEED, 1, 5),
        (PRICE, 0, 1), (PLAN,), (CHECK, [2, 0, 0], [1, 1, 0], [1, 0, 0]), (CHECK, [9, 9, 9], [1, 1, 0], [1, 0, 0]),
        (OPEN, 1, 2, 3, 1, 0, 0, [10, 10, 10], [2, 1, 2]), (COST,), (PROVE, [1, 1, 1], [0, 0, 0]), (STATE,),
        (PROVE, [1, 1, 9], [0, 0, 0]), (WORTH, 3), (CARRY,), (DUE,), (ACT, 9, 1, 1), (ACT, 9, 9, 9), (LOSE, 3),
        (FOUND, 2), (LOSE, 9), (FOUND, 9), (STATE,), (DUE,), (MARGIN, 2), (CARRY,), (CARRY,), (STATE,), (DUE,),
    ])

    def test_the_list_is_the_same_afterwards(self):
        line = list(self.LINE)
        answers(line)
        self.assertEqual(line, self.LINE)

    def test_the_list_is_not_changed_for_a_while_either(self):
        self.assertEqual(answers(Watched(self.LINE)), answers(self.LINE))

    def test_twice_the_same(self):
        line = list(self.LINE)
        self.assertEqual(answers(line), answers(line))

    def test_each_line_has_a_house_of_its_own(self):
        answers(self.LINE)
        self.assertEqual(answers([4]), [1, -2])
        self.assertEqual(answers([14, 15, 12, 1]), [1, -2, 1, -2, 1, -2])
        self.assertEqual(answers(EXAMPLE + [14]), [1, 0, 8, 0, 0, 3, 0, 0, 0, 0, 0])
        self.assertEqual(answers(EXAMPLE + [4]), [1, 0, 2, 0, 27])

    def test_what_is_given_back_is_ones_own(self):
        told = answers(self.LINE)
        again = list(told)
        told.clear()
        self.assertEqual(answers(self.LINE), again)


if __name__ == "__main__":
    unittest.main()
