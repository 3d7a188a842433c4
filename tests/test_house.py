"""A day carried out: when it can be, what it costs, and what there is afterwards."""

import unittest

from tests.helper import Case, house_of
from washedsheets.house import carry_day_out, day_can_be, house_like

CASE = Case(1, 3, 4, 2, 2, 1, [10, 20, 30], [5, 1, 2], due=[3, 1, 0])


def all_of(house):
    return (house.today, house.clean, house.dirty, house.due, house.prices, house.needs)


class Day(unittest.TestCase):
    def test_clean_ones_and_due_ones_are_enough(self):
        house = house_of(CASE)
        self.assertTrue(day_can_be(house, 0, 0, 0))
        house.clean = 1
        self.assertFalse(day_can_be(house, 0, 0, 0))
        self.assertTrue(day_can_be(house, 1, 0, 0))

    def test_dirty_ones_are_enough_for_both_washes(self):
        house = house_of(CASE)
        self.assertTrue(day_can_be(house, 0, 4, 2))
        self.assertFalse(day_can_be(house, 0, 5, 2))
        self.assertFalse(day_can_be(house, 0, 4, 3))

    def test_what_there_is_afterwards(self):
        house = house_of(CASE)
        self.assertEqual(carry_day_out(house, 2, 3, 1), 20 + 12 + 2)
        self.assertEqual(all_of(house), (1, 2, 2, [0, 4, 0, 1] + [0] * 8, [10, 20, 30], [5, 1, 2]))
        self.assertEqual(carry_day_out(house, 0, 0, 3), 6)
        self.assertEqual(all_of(house), (2, 5, 0, [0, 0, 0, 1, 3] + [0] * 7, [10, 20, 30], [5, 1, 2]))
        self.assertEqual(carry_day_out(house, 1, 1, 1), 30 + 4 + 2)
        self.assertEqual(all_of(house), (3, 4, 0, [0, 0, 0, 2, 3, 1] + [0] * 6, [10, 20, 30], [5, 1, 2]))

    def test_the_longest_wash_of_the_last_day(self):
        house = house_of(Case(5, 9, 0, 0, 0, 2, [1], [0]), before=6)
        carry_day_out(house, 0, 1, 1)
        self.assertEqual((house.due[6 + 5], house.due[6 + 9]), (1, 1))

    def test_a_twin_shares_nothing(self):
        house = house_of(CASE)
        before = all_of(house_of(CASE))
        twin = house_like(house)
        self.assertEqual(all_of(twin), before)
        carry_day_out(twin, 2, 3, 1)
        twin.needs[1] = 9
        twin.prices[1] = 9
        self.assertEqual(all_of(house), before)


if __name__ == "__main__":
    unittest.main()
