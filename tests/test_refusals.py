"""Ranges, refusals and their order, and that a refused call changes nothing."""

import unittest

from tests.helper import CHECK, COST, HUGE, MARGIN, NEED, OPEN, PLAN, PRICE, PROOF, ask, ask_last, line_of
from washedsheets.desk import Desk, answer_call
from washedsheets.forms import Call
from washedsheets.house import House

NUMBERS = [1, 2, 3, 1, 0, 0]
SEVEN = (OPEN, 1, 2, 3, 1, 4, 5, [10, 9, 8, 7, 6, 5, 4], [2, 1, 2, 0, 3, 1, 2])
THREE = (OPEN, 1, 2, 3, 1, 0, 0, [10, 10, 10], [2, 1, 2])
NO_PLAN = (CHECK, [0] * 3, [0] * 3, [0] * 3)
LOOK = ((PLAN,), (COST,), (PROOF,), (MARGIN, 0), (MARGIN, 2))


def opening(**changed):
    places = {"fast_days": 0, "slow_days": 1, "fast_cost": 2, "slow_cost": 3, "clean": 4, "dirty": 5}
    numbers = list(NUMBERS)
    for name, number in changed.items():
        if name in places:
            numbers[places[name]] = number
    return (OPEN, *numbers, changed.get("prices", [10, 10, 10]), changed.get("needs", [2, 1, 2]))


def outside(least, most):
    return (least - 1, most + 1, -HUGE, HUGE)


class OpenRanges(unittest.TestCase):
    RANGES = {"fast_days": (1, 5), "slow_days": (1, 9), "fast_cost": (0, 1000), "slow_cost": (0, 1000),
              "clean": (0, 50), "dirty": (0, 50)}

    def test_both_ends_are_taken(self):
        for name, ends in self.RANGES.items():
            for number in ends:
                fitting = {"slow_days": 9} if name == "fast_days" else {}
                with self.subTest(name=name, number=number):
                    self.assertEqual(ask(opening(**{**fitting, name: number})), [[0]])

    def test_beyond_either_end_is_refused(self):
        for name, ends in self.RANGES.items():
            for number in outside(*ends):
                with self.subTest(name=name, number=number):
                    self.assertEqual(ask(opening(**{name: number}), (COST,)), [[-1], [-2]])

    def test_prices_in_range(self):
        for prices in ([0, 0, 0], [10000, 10000, 10000]):
            self.assertEqual(ask(opening(prices=prices)), [[0]])
        for price in outside(0, 10000):
            for place in range(3):
                prices = [10, 10, 10]
                prices[place] = price
                self.assertEqual(ask(opening(prices=prices), (COST,)), [[-1], [-2]])

    def test_needs_in_range(self):
        for needs in ([0, 0, 0], [20, 20, 20]):
            self.assertEqual(ask(opening(needs=needs)), [[0]])
        for need in outside(0, 20):
            for place in range(3):
                needs = [2, 1, 2]
                needs[place] = need
                self.assertEqual(ask(opening(needs=needs), (COST,)), [[-1], [-2]])

    def test_lengths_in_range(self):
        for length in range(1, 8):
            self.assertEqual(ask(opening(prices=[1] * length, needs=[1] * length)), [[0]])
        for length in (0, 8, 100):
            self.assertEqual(ask(opening(prices=[1] * length)), [[-1]])
            self.assertEqual(ask(opening(needs=[1] * length)), [[-1]])
            self.assertEqual(ask(opening(prices=[1] * length, needs=[1] * length)), [[-1]])
            self.assertEqual(ask(opening(prices=[HUGE] * length, needs=[-HUGE] * length)), [[-1]])

    def test_the_call_behind_a_long_list_is_read_rightly(self):
        told = ask(opening(prices=[3] * 100, needs=[4] * 100), THREE, (COST,))
        self.assertEqual(told, [[-1], [0], [0, 27]])


class OtherRanges(unittest.TestCase):
    def test_days_and_numbers_at_both_ends(self):
        for call in ((NEED, 0, 0), (NEED, 6, 20), (PRICE, 0, 0), (PRICE, 6, 10000)):
            self.assertEqual(ask_last(SEVEN, call), [0])
        for day in (0, 6):
            self.assertEqual(ask_last(SEVEN, (MARGIN, day))[0], 0)

    def test_beyond_either_end(self):
        for day in outside(0, 6):
            for call in ((NEED, day, 1), (PRICE, day, 1), (MARGIN, day)):
                self.assertEqual(ask_last(SEVEN, call), [-1])
        for need in outside(0, 20):
            self.assertEqual(ask_last(SEVEN, (NEED, 0, need)), [-1])
        for price in outside(0, 10000):
            self.assertEqual(ask_last(SEVEN, (PRICE, 0, price)), [-1])

    def test_check_numbers(self):
        good = [0] * 7
        for row in range(3):
            for number in outside(0, 999):
                for place in (0, 3, 6):
                    rows = [list(good), list(good), list(good)]
                    rows[row][place] = number
                    self.assertEqual(ask_last(SEVEN, (CHECK, *rows)), [-1])
            rows = [list(good), list(good), list(good)]
            rows[row][0] = 999
            self.assertEqual(ask_last(SEVEN, (CHECK, *rows))[0], 0)

    def test_check_lengths(self):
        good = [0] * 7
        for row in range(3):
            for length in (8, 99, 100):
                rows = [good, good, good]
                rows[row] = [0] * length
                self.assertEqual(ask_last(SEVEN, (CHECK, *rows)), [-1])
                rows[row] = [HUGE] * length
                self.assertEqual(ask_last(SEVEN, (CHECK, *rows)), [-1])
            for length in range(7):
                rows = [good, good, good]
                rows[row] = [0] * length
                self.assertEqual(ask_last(SEVEN, (CHECK, *rows)), [-5])
        self.assertEqual(ask_last(SEVEN, (CHECK, [], [], [])), [-5])


class NotOpen(unittest.TestCase):
    def test_each_call_but_open(self):
        calls = ((NEED, 0, 1), (PRICE, 0, 1), (PLAN,), (COST,), (PROOF,), (MARGIN, 0), NO_PLAN)
        self.assertEqual(ask(*calls), [[-2]] * len(calls))

    def test_out_of_range_comes_first(self):
        calls = ((NEED, 7, 1), (NEED, 0, 21), (PRICE, -1, 1), (PRICE, 0, 10001), (MARGIN, 7),
                 (CHECK, [1000], [], []), (CHECK, [], [-1], []), (CHECK, [], [], [0] * 8))
        self.assertEqual(ask(*calls), [[-1]] * len(calls))

    def test_it_comes_before_what_is_told_with_the_call(self):
        self.assertEqual(ask((CHECK, [], [0], [0, 0])), [[-2]])
        self.assertEqual(ask((MARGIN, 6), (NEED, 6, 0), (PRICE, 6, 0)), [[-2], [-2], [-2]])

    def test_a_refused_open_opens_nothing(self):
        for refused in (opening(dirty=51), opening(fast_days=3), opening(prices=[1])):
            told = ask(refused, (COST,), THREE, (COST,))
            self.assertLess(told[0][0], 0)
            self.assertEqual(told[1:], [[-2], [0], [0, 27]])


class OpenRefused(unittest.TestCase):
    def test_open_already(self):
        self.assertEqual(ask(THREE, THREE, SEVEN, (COST,)), [[0], [-3], [-3], [0, 27]])

    def test_slow_below_fast(self):
        for fast_days, slow_days in ((2, 1), (5, 1), (5, 4)):
            self.assertEqual(ask(opening(fast_days=fast_days, slow_days=slow_days)), [[-4]])
        for both in (1, 5):
            self.assertEqual(ask(opening(fast_days=both, slow_days=both)), [[0]])

    def test_lists_of_two_lengths(self):
        self.assertEqual(ask(opening(prices=[1, 2])), [[-5]])
        self.assertEqual(ask(opening(needs=[1, 2])), [[-5]])
        self.assertEqual(ask(opening(prices=[1] * 7, needs=[1])), [[-5]])

    def test_order(self):
        slow, uneven, wrong = {"fast_days": 3}, {"prices": [1]}, {"clean": 51}
        self.assertEqual(ask(opening(**slow, **uneven)), [[-4]])
        self.assertEqual(ask(opening(**slow, **wrong)), [[-1]])
        self.assertEqual(ask(opening(**uneven, **wrong)), [[-1]])
        self.assertEqual(ask(opening(prices=[], needs=[1], **slow)), [[-1]])
        self.assertEqual(ask_last(THREE, opening(**slow)), [-3])
        self.assertEqual(ask_last(THREE, opening(**uneven)), [-3])
        self.assertEqual(ask_last(THREE, opening(**slow, **uneven)), [-3])
        self.assertEqual(ask_last(THREE, opening(**wrong)), [-1])


class DaysRefused(unittest.TestCase):
    def test_no_day_to_come(self):
        for day in (3, 4, 5, 6):
            told = ask(THREE, (NEED, day, 1), (PRICE, day, 1), (MARGIN, day))
            self.assertEqual(told, [[0], [-6], [-6], [-6]])
        self.assertEqual(ask(THREE, (NEED, 2, 2), (PRICE, 2, 10), (MARGIN, 2))[1:3], [[0], [0]])

    def test_out_of_range_comes_first(self):
        self.assertEqual(ask(THREE, (NEED, 3, 21), (PRICE, 3, -1), (PRICE, 3, HUGE))[1:], [[-1], [-1], [-1]])
        self.assertEqual(ask_last(THREE, (CHECK, [0, 0], [0, 0, 1000], [0, 0, 0])), [-1])


class NothingChanged(unittest.TestCase):
    REFUSED = (
        THREE, SEVEN, opening(fast_days=3), opening(clean=51), opening(needs=[1, 1]), opening(prices=[]),
        (NEED, 3, 5), (NEED, 6, 0), (NEED, 7, 5), (NEED, -1, 5), (NEED, 0, 21), (NEED, 1, -1), (NEED, 2, HUGE),
        (PRICE, 3, 5), (PRICE, 6, 0), (PRICE, 7, 5), (PRICE, -1, 5), (PRICE, 0, 10001), (PRICE, 1, -1),
        (MARGIN, 3), (MARGIN, 7), (MARGIN, -HUGE),
        (CHECK, [9], [9], [9]), (CHECK, [9, 9, 1000], [0, 0, 0], [0, 0, 0]), (CHECK, [], [], []),
    )

    def test_after_each_refused_call(self):
        for refused in self.REFUSED:
            with self.subTest(refused=refused):
                told = ask(THREE, *LOOK, refused, *LOOK)
                between = told[1 + len(LOOK)]
                self.assertEqual(len(between), 1)
                self.assertLess(between[0], 0)
                self.assertEqual(told[1:1 + len(LOOK)], told[2 + len(LOOK):])

    def test_what_only_asks_changes_nothing_either(self):
        for asking in (*LOOK, NO_PLAN, (CHECK, [5, 5, 5], [1, 1, 1], [0, 0, 0])):
            told = ask(THREE, *LOOK, asking, *LOOK)
            self.assertEqual(told[1:1 + len(LOOK)], told[2 + len(LOOK):])


class NeedAndPrice(unittest.TestCase):
    def test_they_are_as_if_opened_so(self):
        changed = ask(opening(), (NEED, 1, 4), (PRICE, 2, 1), (PRICE, 0, 12), (NEED, 2, 0), *LOOK)
        opened = ask(opening(prices=[12, 10, 1], needs=[2, 4, 0]), *LOOK)
        self.assertEqual(changed[5:], opened[1:])

    def test_the_last_one_holds(self):
        changed = ask(opening(), (NEED, 1, 4), (NEED, 1, 20), (PRICE, 1, 0), (PRICE, 1, 10000), *LOOK)
        self.assertEqual(changed[5:], ask(opening(prices=[10, 10000, 10], needs=[2, 20, 2]), *LOOK)[1:])


class DaysCarriedOut(unittest.TestCase):
    """No call carries a day out yet, so the house is put on the day by hand."""

    def answers_on(self, today, *call):
        desk = Desk()
        desk.house = House((1, 2, 3, 1), 0, 0, [10, 10, 10], [2, 1, 2])
        desk.house.today = today
        return answer_call(desk, Call(line_of([call]), 0))

    def test_all_carried_out(self):
        for call in ((PLAN,), (COST,), (PROOF,), (CHECK, [], [], []), (CHECK, [0], [], [])):
            self.assertEqual(self.answers_on(3, *call), [-7])
        self.assertEqual(self.answers_on(3, CHECK, [1000], [], []), [-1])

    def test_days_before_today_are_not_to_come(self):
        for call in ((NEED, 1, 1), (PRICE, 1, 1), (MARGIN, 1)):
            self.assertEqual(self.answers_on(2, *call), [-6])
            self.assertEqual(self.answers_on(1, *call)[0], 0)
        for call in ((NEED, 2, 1), (PRICE, 2, 1), (MARGIN, 2)):
            self.assertEqual(self.answers_on(2, *call)[0], 0)
            self.assertEqual(self.answers_on(3, *call), [-6])

    def test_lists_are_as_long_as_the_days_to_come(self):
        self.assertEqual(self.answers_on(1, CHECK, [1, 2], [0, 0], [0, 0]), [0, 1, 30])
        self.assertEqual(self.answers_on(1, CHECK, [1, 2, 0], [0, 0, 0], [0, 0, 0]), [-5])
        self.assertEqual(self.answers_on(1, CHECK, [1, 1], [0, 0], [0, 0]), [0, 0, 2])
        self.assertEqual(self.answers_on(2, PLAN), [0, 20, 2, 0, 0])
        self.assertEqual(self.answers_on(2, PROOF), [0, 20, 10, 0])


if __name__ == "__main__":
    unittest.main()
