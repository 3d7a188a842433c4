"""A house: its days, its sheets and its washes, and what a day carried out does to them."""

LONGEST_WASH = 9


class House:
    # washes: the days of the fast and of the slow wash, then the cost of the fast and of the slow one.
    def __init__(self, washes, clean, dirty, prices, needs):
        self.fast_days = washes[0]
        self.slow_days = washes[1]
        self.fast_cost = washes[2]
        self.slow_cost = washes[3]
        self.clean = clean
        self.dirty = dirty
        self.prices = list(prices)
        self.needs = list(needs)
        self.today = 0
        self.paid = 0
        self.bought = 0
        self.lost = 0
        # A wash of the last day may come back so many days behind it.
        self.due = [0] * (len(self.prices) + LONGEST_WASH)


# A trial changes such a twin, so that the house itself stays as it is. What's been paid, bought and lost so far
# says nothing of the days to come, so the twin begins anew with that.
def house_like(house):
    washes = (house.fast_days, house.slow_days, house.fast_cost, house.slow_cost)
    twin = House(washes, house.clean, house.dirty, house.prices, house.needs)
    twin.today = house.today
    twin.due = list(house.due)
    return twin


def days_to_come(house):
    return list(range(house.today, len(house.prices)))


def is_to_come(house, day):
    return house.today <= day and day < len(house.prices)


def is_over(house):
    return house.today >= len(house.prices)


def day_can_be(house, bought, fast, slow):
    need = house.needs[house.today]
    clean = house.clean + house.due[house.today] + bought
    dirty = house.dirty + need
    return clean >= need and dirty >= fast + slow


def day_cost(house, day, bought, fast, slow):
    return bought * house.prices[day] + fast * house.fast_cost + slow * house.slow_cost


# Gives back what is paid on that day. It doesn't ask whether the day can be: the caller has, and answers in its
# own way.
def carry_day_out(house, bought, fast, slow):
    day = house.today
    paid = day_cost(house, day, bought, fast, slow)
    house.clean += house.due[day] + bought - house.needs[day]
    house.due[day] = 0
    house.dirty += house.needs[day] - fast - slow
    house.due[day + house.fast_days] += fast
    house.due[day + house.slow_days] += slow
    house.paid += paid
    house.bought += bought
    house.today = day + 1
    return paid
