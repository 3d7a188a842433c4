"""The desk: takes a line of calls on one house and gives back their answers."""

from washedsheets.forms import Call, is_in_range
from washedsheets.house import House, carry_day_out, day_can_be, days_to_come, house_like, is_over, is_to_come
from washedsheets.planning import bound_of, cheapest_cost, cheapest_plan, clean_prices, dirty_prices, plan_cost

OPENING = 0

DONE = 0
OUT_OF_RANGE = -1
NOT_OPEN = -2
OPEN_ALREADY = -3
SLOW_BELOW_FAST = -4
WRONG_LENGTH = -5
NO_DAY_TO_COME = -6
ALL_CARRIED_OUT = -7


# What is kept from call to call within one line.
class Desk:
    def __init__(self):
        self.house = None


def answer_opening(desk, call):
    numbers = call.numbers
    if desk.house is not None:
        return [OPEN_ALREADY]
    if numbers[1] < numbers[0]:
        return [SLOW_BELOW_FAST]
    if len(call.rows[0]) != len(call.rows[1]):
        return [WRONG_LENGTH]
    desk.house = House(numbers[:4], numbers[4], numbers[5], call.rows[0], call.rows[1])
    return [DONE]


def answer_need(desk, call):
    house = desk.house
    day = call.numbers[0]
    if not is_to_come(house, day):
        return [NO_DAY_TO_COME]
    house.needs[day] = call.numbers[1]
    return [DONE]


def answer_price(desk, call):
    house = desk.house
    day = call.numbers[0]
    if not is_to_come(house, day):
        return [NO_DAY_TO_COME]
    house.prices[day] = call.numbers[1]
    return [DONE]


def answer_plan(desk, call):
    house = desk.house
    if is_over(house):
        return [ALL_CARRIED_OUT]
    plan = cheapest_plan(house)
    return [DONE, plan_cost(house, plan)] + plan[0] + plan[1] + plan[2]


def answer_cost(desk, call):
    house = desk.house
    if is_over(house):
        return [ALL_CARRIED_OUT]
    return [DONE, cheapest_cost(house)]


def answer_proof(desk, call):
    house = desk.house
    if is_over(house):
        return [ALL_CARRIED_OUT]
    clean = clean_prices(house)
    dirty = dirty_prices(house, clean)
    return [DONE, bound_of(house, clean, dirty)] + clean + dirty


def answer_margin(desk, call):
    house = desk.house
    day = call.numbers[0]
    if not is_to_come(house, day):
        return [NO_DAY_TO_COME]
    needier = house_like(house)
    needier.needs[day] += 1
    return [DONE, cheapest_cost(needier) - cheapest_cost(house)]


def answer_check(desk, call):
    house = desk.house
    if is_over(house):
        return [ALL_CARRIED_OUT]
    count = len(days_to_come(house))
    if any([len(row) != count for row in call.rows]):
        return [WRONG_LENGTH]
    trial = house_like(house)
    cost = 0
    for bought, fast, slow in zip(call.rows[0], call.rows[1], call.rows[2]):
        if not day_can_be(trial, bought, fast, slow):
            return [DONE, 0, trial.today]
        cost += carry_day_out(trial, bought, fast, slow)
    return [DONE, 1, cost]


# By the calls' numbers.
ANSWERERS = (
    answer_opening,
    answer_need,
    answer_price,
    answer_plan,
    answer_cost,
    answer_proof,
    answer_margin,
    answer_check,
)


def answer_call(desk, call):
    if not is_in_range(call):
        return [OUT_OF_RANGE]
    if call.number != OPENING and desk.house is None:
        return [NOT_OPEN]
    return ANSWERERS[call.number](desk, call)


# Each answer stands behind how many numbers it has.
def answers(calls):
    desk = Desk()
    told = []
    place = 0
    while place < len(calls):
        call = Call(calls, place)
        answer = answer_call(desk, call)
        told.append(len(answer))
        told.extend(answer)
        place = call.end
    return told
