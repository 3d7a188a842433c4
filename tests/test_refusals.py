"""Ranges, refusals and their order, and that a refused call changes nothing."""

import unittest

from tests.helper import (ACT, CARRY, CHECK, COST, DUE, FOUND, HUGE, LOSE, MARGIN, NEED, OPEN, PLAN, PRICE, PROOF,
                          PROVE, STATE, WORTH, ask, ask_last)

NUMBERS = [1, 2, 3, 1, 0, 0]
SEVEN = (OPEN, 1, 2, 3, 1, 4, 5, [10, 9, 8, 7, 6, 5, 4], [2, 1, 2, 0, 3, 1, 2])
THREE = (OPEN, 1, 2, 3, 1, 0, 0, [10, 10, 10], [2, 1, 2])


def opening(**changed):
    places = {"fast_days": 0, "slow_days": 1, "fast_cost": 2, "slow_cost": 3, "clean": 4, "dirty": 5}
    numbers = list(NUMBERS)
    for name, number in changed.items():
        if name in places:
            numbers[places[name]] = number
    return (OPEN, *numbers, changed.get("prices", [10, 10, 10]), changed.get("needs", [2, 1, 2]))


NO_PLAN = (CHECK, [0] * 3, [0] * 3, [0] * 3)
NO_PRICES = (PROVE, [0] * 3, [0] * 3)
LOOK = ((STATE,), (DUE,), (PLAN,), (COST,), (PROOF,), (MARGIN, 0), (MARGIN, 2))
# Three days, all carried out: two sheets bought, one of them lost, one due behind the last day.
OVER = (opening(needs=[0, 0, 1]), (ACT, 2, 0, 0), (LOSE, 1), (ACT, 0, 0, 0), (ACT, 0, 1, 0))


def outside(least, most):
    return (least - 1, most + 1, -HUGE, HUGE)


class OpenRanges(unittest.TestCase):
    RANGES = {"fast_days": (1, 5), "slow_days": (1, 9), "fast_cost": (0, 1000), "slow_cost": (0, 1000),
              "clean": (0, 50), "dirty": (0, 50)}

    def test_both_ends_are_taken(self):
        for name, ends in self.RANGES.items():
            for number in ends:
                fitting = {"slow_days": 9} if name == "fast_days" else {}
                with self.subTest(name=name, number=number):
                    self.assertEqual(ask(opening(**{**fitting, name: number})), [[0]])

    def test_beyond_either_end_is_refused(self):
        for name, ends in self.RANGES.items():
            for number in outside(*ends):
                with self.subTest(name=name, number=number):
                    self.assertEqual(ask(opening(**{name: number}), (COST,)), [[-1], [-2]])

    def test_prices_in_range(self):
        for prices in ([0, 0, 0], [10000, 10000, 10000]):
            self.assertEqual(ask(opening(prices=prices)), [[0]])
        for price in outside(0, 10000):
            for place in range(3):
                prices = [10, 10, 10]
                prices[place] = price
                self.assertEqual(ask(opening(prices=prices), (COST,)), [[-1], [-2]])

    def test_needs_in_range(self):
        for needs in ([0, 0, 0], [20, 20, 20]):
            self.assertEqual(ask(opening(needs=needs)), [[0]])
        for need in outside(0, 20):
            for place in range(3):
                needs = [2, 1, 2]
                needs[place] = need
                self.assertEqual(ask(opening(needs=needs), (COST,)), [[-1], [-2]])

    def test_lengths_in_range(self):
        for length in range(1, 8):
            self.assertEqual(ask(opening(prices=[1] * length, needs=[1] * length)), [[0]])
        for length in (0, 8, 100):
            self.assertEqual(ask(opening(prices=[1] * length)), [[-1]])
            self.assertEqual(ask(opening(needs=[1] * length)), [[-1]])
            self.assertEqual(ask(opening(prices=[1] * length, needs=[1] * length)), [[-1]])
            self.assertEqual(ask(opening(prices=[HUGE] * length, needs=[-HUGE] * length)), [[-1]])

    def test_the_call_behind_a_long_list_is_read_rightly(self):
        told = ask(opening(prices=[3] * 100, needs=[4] * 100), THREE, (COST,))
        self.assertEqual(told, [[-1], [0], [0, 27]])


class OtherRanges(unittest.TestCase):
    def test_days_and_numbers_at_both_ends(self):
        for call in ((NEED, 0, 0), (NEED, 6, 20), (PRICE, 0, 0), (PRICE, 6, 10000)):
            self.assertEqual(ask_last(SEVEN, call), [0])
        for day in (0, 6):
            self.assertEqual(ask_last(SEVEN, (MARGIN, day))[0], 0)

    def test_beyond_either_end(self):
        for day in outside(0, 6):
            for call in ((NEED, day, 1), (PRICE, day, 1), (MARGIN, day)):
                self.assertEqual(ask_last(SEVEN, call), [-1])
        for need in outside(0, 20):
            self.assertEqual(ask_last(SEVEN, (NEED, 0, need)), [-1])
        for price in outside(0, 10000):
            self.assertEqual(ask_last(SEVEN, (PRICE, 0, price)), [-1])

    def test_check_numbers(self):
        good = [0] * 7
        for row in range(3):
            for number in outside(0, 999):
                for place in (0, 3, 6):
                    rows = [list(good), list(good), list(good)]
                    rows[row][place] = number
                    self.assertEqual(ask_last(SEVEN, (CHECK, *rows)), [-1])
            rows = [list(good), list(good), list(good)]
            rows[row][0] = 999
            self.assertEqual(ask_last(SEVEN, (CHECK, *rows))[0], 0)

    def test_check_lengths(self):
        good = [0] * 7
        for row in range(3):
            for length in (8, 99, 100):
                rows = [good, good, good]
                rows[row] = [0] * length
                self.assertEqual(ask_last(SEVEN, (CHECK, *rows)), [-1])
                rows[row] = [HUGE] * length
                self.assertEqual(ask_last(SEVEN, (CHECK, *rows)), [-1])
            for length in range(7):
                rows = [good, good, good]
                rows[row] = [0] * length
                self.assertEqual(ask_last(SEVEN, (CHECK, *rows)), [-5])
        self.assertEqual(ask_last(SEVEN, (CHECK, [], [], [])), [-5])


    def test_prove_numbers(self):
        for row in range(2):
            for place in (0, 3, 6):
                for number in outside(-1000000, 1000000):
                    rows = [[0] * 7, [0] * 7]
                    rows[row][place] = number
                    self.assertEqual(ask_last(SEVEN, (PROVE, *rows)), [-1])
                for number in (-1000000, 1000000):
                    rows = [[0] * 7, [0] * 7]
                    rows[row][place] = number
                    self.assertEqual(ask_last(SEVEN, (PROVE, *rows))[0], 0)

    def test_prove_lengths(self):
        good = [0] * 7
        for row in range(2):
            for length in (8, 99, 100):
                for number in (0, HUGE, -HUGE):
                    rows = [good, good]
                    rows[row] = [number] * length
                    self.assertEqual(ask_last(SEVEN, (PROVE, *rows)), [-1])
            for length in range(7):
                rows = [good, good]
                rows[row] = [0] * length
                self.assertEqual(ask_last(SEVEN, (PROVE, *rows)), [-5])
        self.assertEqual(ask_last(SEVEN, (PROVE, [], [])), [-5])
        self.assertEqual(ask(SEVEN, (PROVE, [HUGE] * 100, [-HUGE] * 100), (PROVE, good, good))[1:2], [[-1]])

    # 4 + 999 - 2 clean ones after the first day; then so many of them found, dirty.
    MANY = (SEVEN, (ACT, 999, 0, 0))
    MANY_DIRTY = (*MANY, (LOSE, 1000), (FOUND, 1000))

    def test_act_at_both_ends(self):
        self.assertEqual(ask_last(SEVEN, (ACT, 0, 0, 0)), [0, 0])
        self.assertEqual(ask_last(SEVEN, (ACT, 999, 0, 0)), [0, 9990])
        self.assertEqual(ask_last(*self.MANY_DIRTY, (ACT, 0, 999, 0)), [0, 2997])
        self.assertEqual(ask_last(*self.MANY_DIRTY, (ACT, 0, 0, 999)), [0, 999])

    def test_act_beyond_either_end(self):
        for place in range(3):
            for number in outside(0, 999):
                numbers = [0, 0, 0]
                numbers[place] = number
                self.assertEqual(ask_last(*self.MANY_DIRTY, (ACT, *numbers)), [-1])

    def test_lose_and_found(self):
        self.assertEqual(ask_last(*self.MANY, (LOSE, 1)), [0, 1000])
        self.assertEqual(ask_last(*self.MANY, (LOSE, 1000)), [0, 1])
        self.assertEqual(ask_last(*self.MANY, (LOSE, 1000), (FOUND, 1)), [0, 8])
        self.assertEqual(ask_last(*self.MANY, (LOSE, 1000), (FOUND, 1000)), [0, 1007])
        more = (*self.MANY, (ACT, 999, 0, 0), (LOSE, 1000), (LOSE, 999))
        for number in outside(1, 1000):
            self.assertEqual(ask_last(*self.MANY, (ACT, 999, 0, 0), (LOSE, number)), [-1])
            self.assertEqual(ask_last(*more, (FOUND, number)), [-1])

    def test_worth(self):
        for number in (1, 100):
            self.assertEqual(ask_last(SEVEN, (WORTH, number))[0], 0)
        for number in outside(1, 100):
            self.assertEqual(ask_last(SEVEN, (WORTH, number)), [-1])


class NotOpen(unittest.TestCase):
    def test_each_call_but_open(self):
        calls = ((NEED, 0, 1), (PRICE, 0, 1), (PLAN,), (COST,), (PROOF,), (MARGIN, 0), NO_PLAN, NO_PRICES, (CARRY,),
                 (ACT, 0, 0, 0), (LOSE, 1), (FOUND, 1), (WORTH, 1), (STATE,), (DUE,))
        self.assertEqual(ask(*calls), [[-2]] * 15)

    def test_out_of_range_comes_first(self):
        calls = ((NEED, 7, 1), (NEED, 0, 21), (PRICE, -1, 1), (PRICE, 0, 10001), (MARGIN, 7),
                 (CHECK, [1000], [], []), (CHECK, [], [-1], []), (CHECK, [], [], [0] * 8),
                 (PROVE, [1000001], []), (PROVE, [], [-1000001]), (PROVE, [0] * 8, []), (PROVE, [], [0] * 100),
                 (ACT, -1, 0, 0), (ACT, 0, 1000, 0), (ACT, 0, 0, HUGE), (LOSE, 0), (LOSE, 1001), (FOUND, 0),
                 (FOUND, -HUGE), (WORTH, 0), (WORTH, 101))
        self.assertEqual(ask(*calls), [[-1]] * len(calls))

    def test_it_comes_before_what_is_told_with_the_call(self):
        self.assertEqual(ask((CHECK, [], [0], [0, 0])), [[-2]])
        self.assertEqual(ask((MARGIN, 6), (NEED, 6, 0), (PRICE, 6, 0)), [[-2], [-2], [-2]])
        self.assertEqual(ask((PROVE, [], []), (PROVE, [0], [0, 0]), (ACT, 0, 999, 999)), [[-2], [-2], [-2]])
        self.assertEqual(ask((LOSE, 1000), (FOUND, 1000)), [[-2], [-2]])

    def test_a_refused_open_opens_nothing(self):
        for refused in (opening(dirty=51), opening(fast_days=3), opening(prices=[1])):
            told = ask(refused, (COST,), THREE, (COST,))
            self.assertLess(told[0][0], 0)
            self.assertEqual(told[1:], [[-2], [0], [0, 27]])


class OpenRefused(unittest.TestCase):
    def test_open_already(self):
        self.assertEqual(ask(THREE, THREE, SEVEN, (COST,)), [[0], [-3], [-3], [0, 27]])

    def test_slow_below_fast(self):
        for fast_days, slow_days in ((2, 1), (5, 1), (5, 4)):
            self.assertEqual(ask(opening(fast_days=fast_days, slow_days=slow_days)), [[-4]])
        for both in (1, 5):
            self.assertEqual(ask(opening(fast_days=both, slow_days=both)), [[0]])

    def test_lists_of_two_lengths(self):
        self.assertEqual(ask(opening(prices=[1, 2])), [[-5]])
        self.assertEqual(ask(opening(needs=[1, 2])), [[-5]])
        self.assertEqual(ask(opening(prices=[1] * 7, needs=[1])), [[-5]])

    def test_order(self):
        slow, uneven, wrong = {"fast_days": 3}, {"prices": [1]}, {"clean": 51}
        self.assertEqual(ask(opening(**slow, **uneven)), [[-4]])
        self.assertEqual(ask(opening(**slow, **wrong)), [[-1]])
        self.assertEqual(ask(opening(**uneven, **wrong)), [[-1]])
        self.assertEqual(ask(opening(prices=[], needs=[1], **slow)), [[-1]])
        self.assertEqual(ask_last(THREE, opening(**slow)), [-3])
        self.assertEqual(ask_last(THREE, opening(**uneven)), [-3])
        self.assertEqual(ask_last(THREE, opening(**slow, **uneven)), [-3])
        self.assertEqual(ask_last(THREE, opening(**wrong)), [-1])


class DaysRefused(unittest.TestCase):
    def test_no_day_to_come(self):
        for day in (3, 4, 5, 6):
            told = ask(THREE, (NEED, day, 1), (PRICE, day, 1), (MARGIN, day))
            self.assertEqual(told, [[0], [-6], [-6], [-6]])
        self.assertEqual(ask(THREE, (NEED, 2, 2), (PRICE, 2, 10), (MARGIN, 2))[1:3], [[0], [0]])

    def test_out_of_range_comes_first(self):
        self.assertEqual(ask(THREE, (NEED, 3, 21), (PRICE, 3, -1), (PRICE, 3, HUGE))[1:], [[-1], [-1], [-1]])
        self.assertEqual(ask_last(THREE, (CHECK, [0, 0], [0, 0, 1000], [0, 0, 0])), [-1])

    def test_days_before_today_are_not_to_come(self):
        one, two = (THREE, (CARRY,)), (THREE, (CARRY,), (CARRY,))
        for call in ((NEED, 0, 1), (PRICE, 0, 1), (MARGIN, 0)):
            self.assertEqual(ask_last(THREE, call)[0], 0)
            self.assertEqual(ask_last(*one, call), [-6])
        for call in ((NEED, 1, 1), (PRICE, 1, 1), (MARGIN, 1)):
            self.assertEqual(ask_last(*one, call)[0], 0)
            self.assertEqual(ask_last(*two, call), [-6])
        for call in ((NEED, 2, 1), (PRICE, 2, 1), (MARGIN, 2)):
            self.assertEqual(ask_last(*two, call)[0], 0)
            self.assertEqual(ask_last(*two, (CARRY,), call), [-6])


class Over(unittest.TestCase):
    """The last day has been carried out."""

    def test_it_is_carried_out(self):
        self.assertEqual(ask(*OVER, (STATE,), (DUE,))[-2:], [[0, 3, 3, 0, 0, 23, 2, 1], [0, 1]])

    def test_refused(self):
        for call in ((PLAN,), (COST,), (PROOF,), (CARRY,), (WORTH, 1), (WORTH, 100), (ACT, 0, 0, 0), (ACT, 999, 0, 0),
                     (CHECK, [], [], []), (PROVE, [], [])):
            self.assertEqual(ask(*OVER, call, (STATE,))[-2:], [[-7], [0, 3, 3, 0, 0, 23, 2, 1]])
            self.assertNotEqual(ask_last(*OVER[:-1], call), [-7])

    def test_it_comes_before_what_else_is_told_with_the_call(self):
        for call in (NO_PLAN, (CHECK, [0], [], []), NO_PRICES, (PROVE, [0], []), (ACT, 0, 999, 999), (ACT, 0, 1, 0)):
            self.assertEqual(ask_last(*OVER, call), [-7])

    def test_out_of_range_comes_before_it(self):
        for call in ((CHECK, [1000], [], []), (PROVE, [], [1000001]), (PROVE, [0] * 8, []), (ACT, 0, 0, 1000),
                     (ACT, -1, 0, 0), (WORTH, 0), (WORTH, 101)):
            self.assertEqual(ask_last(*OVER, call), [-1])

    def test_no_day_is_to_come(self):
        for day in range(7):
            self.assertEqual(ask(*OVER, (NEED, day, 0), (PRICE, day, 0), (MARGIN, day))[-3:], [[-6]] * 3)

    def test_it_is_open_still(self):
        self.assertEqual(ask_last(*OVER, THREE), [-3])

    def test_lose_and_found_go_on(self):
        self.assertEqual(ask(*OVER, (LOSE, 1), (FOUND, 2), (FOUND, 1), (FOUND, 1))[-4:], [[-9], [-9], [0, 1], [-9]])
        told = ask(opening(needs=[0, 0, 0], clean=2), *[(CARRY,)] * 3, (LOSE, 2), (LOSE, 1), (STATE,))
        self.assertEqual(told[-3:], [[0, 0], [-9], [0, 3, 3, 0, 0, 0, 0, 2]])


class LaterCallsRefused(unittest.TestCase):
    def test_prove_of_another_length(self):
        self.assertEqual(ask_last(THREE, (PROVE, [0] * 3, [0] * 2)), [-5])
        self.assertEqual(ask_last(THREE, (PROVE, [0] * 2, [0] * 3)), [-5])
        self.assertEqual(ask_last(THREE, (PROVE, [0] * 4, [0] * 4)), [-5])
        self.assertEqual(ask_last(THREE, (CARRY,), NO_PRICES), [-5])
        self.assertEqual(ask_last(THREE, (CARRY,), (PROVE, [0] * 2, [0] * 2))[0], 0)
        self.assertEqual(ask_last(THREE, (CARRY,), NO_PLAN), [-5])
        self.assertEqual(ask_last(THREE, (CARRY,), (CHECK, [0] * 2, [0] * 2, [0] * 2))[0], 0)

    def test_out_of_range_comes_before_a_wrong_length(self):
        self.assertEqual(ask_last(THREE, (PROVE, [0], [1000001])), [-1])
        self.assertEqual(ask_last(THREE, (PROVE, [-1000001], [0, 0, 0])), [-1])

    def test_a_wrong_length_comes_before_a_fault(self):
        self.assertEqual(ask_last(THREE, (PROVE, [11, 0, 0], [0, 0])), [-5])

    def test_act_that_can_not_be(self):
        for numbers in ((1, 0, 0), (0, 0, 0), (2, 3, 0), (2, 0, 3), (2, 2, 1), (999, 999, 999), (1, 999, 0)):
            self.assertEqual(ask_last(THREE, (ACT, *numbers)), [-8])
        for numbers in ((1, 1000, 0), (0, 0, -1), (-1, 999, 999), (1000, 0, 999)):
            self.assertEqual(ask_last(THREE, (ACT, *numbers)), [-1])

    def test_lose_and_found_of_more_than_there_are(self):
        self.assertEqual(ask(THREE, (LOSE, 1), (FOUND, 1), (LOSE, 1000), (FOUND, 1000))[1:], [[-9]] * 4)
        self.assertEqual(ask(THREE, (LOSE, 0), (FOUND, 0), (LOSE, 1001), (FOUND, 1001))[1:], [[-1]] * 4)


class NothingChanged(unittest.TestCase):
    REFUSED = (
        THREE, SEVEN, opening(fast_days=3), opening(clean=51), opening(needs=[1, 1]), opening(prices=[]),
        (NEED, 3, 5), (NEED, 6, 0), (NEED, 7, 5), (NEED, -1, 5), (NEED, 0, 21), (NEED, 1, -1), (NEED, 2, HUGE),
        (PRICE, 3, 5), (PRICE, 6, 0), (PRICE, 7, 5), (PRICE, -1, 5), (PRICE, 0, 10001), (PRICE, 1, -1),
        (MARGIN, 3), (MARGIN, 7), (MARGIN, -HUGE),
        (CHECK, [9], [9], [9]), (CHECK, [9, 9, 1000], [0, 0, 0], [0, 0, 0]), (CHECK, [], [], []),
        (PROVE, [0], [0, 0, 0]), (PROVE, [0, 0, 0], []), (PROVE, [0, 0, 0], [0, 0, 1000001]), (PROVE, [0] * 8, [0]),
        (ACT, 1, 0, 0), (ACT, 2, 2, 1), (ACT, 999, 999, 999), (ACT, 1000, 0, 0), (ACT, 2, -1, 0), (ACT, 2, 0, HUGE),
        (LOSE, 1), (LOSE, 1000), (LOSE, 0), (LOSE, -1), (LOSE, 1001), (FOUND, 1), (FOUND, 1000), (FOUND, 0),
        (FOUND, -1), (FOUND, 1001), (WORTH, 0), (WORTH, 101), (WORTH, -HUGE),
    )

    def test_after_each_refused_call(self):
        for refused in self.REFUSED:
            with self.subTest(refused=refused):
                told = ask(THREE, *LOOK, refused, *LOOK)
                between = told[1 + len(LOOK)]
                self.assertEqual(len(between), 1)
                self.assertLess(between[0], 0)
                self.assertEqual(told[1:1 + len(LOOK)], told[2 + len(LOOK):])

    # Of four days the first is carried out: sheets are clean, dirty, lost, due on a day to come and behind all.
    LATER = ((OPEN, 2, 4, 3, 1, 9, 9, [9, 9, 9, 9], [2, 4, 3, 5]), (LOSE, 2), (FOUND, 1), (ACT, 3, 2, 4))
    LOOK_LATER = ((STATE,), (DUE,), (PLAN,), (PROOF,), (MARGIN, 3), (WORTH, 2))
    REFUSED_LATER = (
        LATER[0], (NEED, 0, 5), (NEED, 4, 5), (NEED, 1, 21), (PRICE, 0, 5), (PRICE, 4, 5), (PRICE, 1, 10001),
        (MARGIN, 0), (CHECK, [9] * 4, [0] * 4, [0] * 4), (PROVE, [0] * 4, [0] * 4), (PROVE, [0] * 3, [0] * 2),
        (ACT, 0, 11, 0), (ACT, 0, 5, 6), (ACT, 999, 0, 999), (LOSE, 9), (FOUND, 2), (WORTH, 101),
    )

    def test_on_a_later_day(self):
        self.assertEqual(ask(*self.LATER, (STATE,), (DUE,))[-2:], [[0, 1, 4, 8, 6, 37, 3, 1], [0, 0, 2, 0, 4]])
        for refused in self.REFUSED_LATER:
            with self.subTest(refused=refused):
                self.same_afterwards(refused, lambda between: len(between) == 1 and between[0] < 0)

    def same_afterwards(self, call, is_right):
        told = ask(*self.LATER, *self.LOOK_LATER, call, *self.LOOK_LATER)[len(self.LATER):]
        count = len(self.LOOK_LATER)
        self.assertTrue(is_right(told[count]), told[count])
        self.assertEqual(told[:count], told[count + 1:])

    def test_what_only_asks_changes_nothing_either(self):
        plan = (CHECK, [5, 5, 5], [1, 1, 1], [0, 0, 0])
        for asking in (*LOOK, (WORTH, 1), (WORTH, 100), NO_PLAN, plan, NO_PRICES, (PROVE, [11, 0, 0], [0, 0, 0])):
            told = ask(THREE, *LOOK, asking, *LOOK)
            self.assertEqual(told[1:1 + len(LOOK)], told[2 + len(LOOK):])
            if asking[0] != MARGIN:
                self.same_afterwards(asking, lambda between: between[0] == 0)


class NeedAndPrice(unittest.TestCase):
    def test_they_are_as_if_opened_so(self):
        changed = ask(opening(), (NEED, 1, 4), (PRICE, 2, 1), (PRICE, 0, 12), (NEED, 2, 0), *LOOK)
        opened = ask(opening(prices=[12, 10, 1], needs=[2, 4, 0]), *LOOK)
        self.assertEqual(changed[5:], opened[1:])

    def test_the_last_one_holds(self):
        changed = ask(opening(), (NEED, 1, 4), (NEED, 1, 20), (PRICE, 1, 0), (PRICE, 1, 10000), *LOOK)
        self.assertEqual(changed[5:], ask(opening(prices=[10, 10000, 10], needs=[2, 20, 2]), *LOOK)[1:])


if __name__ == "__main__":
    unittest.main()
