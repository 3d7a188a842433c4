"""The desk: takes a line of calls on one house and gives back their answers."""

from washedsheets.forms import Call, is_in_range
from washedsheets.house import House, carry_day_out, day_can_be, days_to_come, house_like, is_over, is_to_come
from washedsheets.planning import cheapest_cost, cheapest_plan, clean_prices, plan_cost
from washedsheets.pricing import bound_of, dirty_prices, first_fault

OPENING = 0
# plan, cost, proof, check, prove, carry, act, worth. That no day is left is the first of what refuses each of
# them, so it is asked for all of them in one place.
NEEDING_A_DAY = (3, 4, 5, 7, 8, 9, 10, 13)

DONE = 0
OUT_OF_RANGE = -1
NOT_OPEN = -2
OPEN_ALREADY = -3
SLOW_BELOW_FAST = -4
WRONG_LENGTH = -5
NO_DAY_TO_COME = -6
ALL_CARRIED_OUT = -7
CAN_NOT_BE = -8
NOT_SO_MANY = -9


# What is kept from call to call within one line.
class Desk:
    def __init__(self):
        self.house = None


def answer_opening(desk, call):
    numbers = call.numbers
    if desk.house is not None:
        return [OPEN_ALREADY]
    if numbers[1] < numbers[0]:
        return [SLOW_BELOW_FAST]
    if len(call.rows[0]) != len(call.rows[1]):
        return [WRONG_LENGTH]
    desk.house = House(numbers[:4], numbers[4], numbers[5], call.rows[0], call.rows[1])
    return [DONE]


def answer_need(desk, call):
    house = desk.house
    day = call.numbers[0]
    if not is_to_come(house, day):
        return [NO_DAY_TO_COME]
    house.needs[day] = call.numbers[1]
    return [DONE]


def answer_price(desk, call):
    house = desk.house
    day = call.numbers[0]
    if not is_to_come(house, day):
        return [NO_DAY_TO_COME]
    house.prices[day] = call.numbers[1]
    return [DONE]


def answer_plan(desk, call):
    house = desk.house
    plan = cheapest_plan(house)
    return [DONE, plan_cost(house, plan)] + plan[0] + plan[1] + plan[2]


def answer_cost(desk, call):
    house = desk.house
    return [DONE, cheapest_cost(house)]


def answer_proof(desk, call):
    house = desk.house
    clean = clean_prices(house)
    dirty = dirty_prices(house, clean)
    return [DONE, bound_of(house, clean, dirty)] + clean + dirty


def answer_margin(desk, call):
    house = desk.house
    day = call.numbers[0]
    if not is_to_come(house, day):
        return [NO_DAY_TO_COME]
    needier = house_like(house)
    needier.needs[day] += 1
    return [DONE, cheapest_cost(needier) - cheapest_cost(house)]


def has_a_number_for_each_day(house, rows):
    count = len(days_to_come(house))
    return all([len(row) == count for row in rows])


def answer_check(desk, call):
    house = desk.house
    if not has_a_number_for_each_day(house, call.rows):
        return [WRONG_LENGTH]
    trial = house_like(house)
    cost = 0
    for bought, fast, slow in zip(call.rows[0], call.rows[1], call.rows[2]):
        if not day_can_be(trial, bought, fast, slow):
            return [DONE, 0, trial.today]
        cost += carry_day_out(trial, bought, fast, slow)
    return [DONE, 1, cost]


def answer_prove(desk, call):
    house = desk.house
    if not has_a_number_for_each_day(house, call.rows):
        return [WRONG_LENGTH]
    clean = call.rows[0]
    dirty = call.rows[1]
    fault = first_fault(house, clean, dirty)
    if fault is not None:
        return [DONE, 0] + fault
    return [DONE, 1, bound_of(house, clean, dirty)]


def answer_carry(desk, call):
    house = desk.house
    numbers = [row[0] for row in cheapest_plan(house)]
    paid = carry_day_out(house, numbers[0], numbers[1], numbers[2])
    return [DONE] + numbers + [paid]


def answer_act(desk, call):
    house = desk.house
    numbers = call.numbers
    if not day_can_be(house, numbers[0], numbers[1], numbers[2]):
        return [CAN_NOT_BE]
    return [DONE, carry_day_out(house, numbers[0], numbers[1], numbers[2])]


def answer_lose(desk, call):
    house = desk.house
    count = call.numbers[0]
    if count > house.clean:
        return [NOT_SO_MANY]
    house.clean -= count
    house.lost += count
    return [DONE, house.clean]


def answer_found(desk, call):
    house = desk.house
    count = call.numbers[0]
    if count > house.lost:
        return [NOT_SO_MANY]
    house.lost -= count
    house.dirty += count
    return [DONE, house.dirty]


def answer_worth(desk, call):
    house = desk.house
    richer = house_like(house)
    richer.clean += call.numbers[0]
    return [DONE, cheapest_cost(house) - cheapest_cost(richer)]


def answer_state(desk, call):
    house = desk.house
    days = [house.today, len(house.prices)]
    return [DONE] + days + [house.clean, house.dirty, house.paid, house.bought, house.lost]


def answer_due(desk, call):
    house = desk.house
    count = len(house.prices)
    return [DONE] + house.due[house.today:count] + [sum(house.due[count:])]


# By the calls' numbers.
ANSWERERS = (
    answer_opening,
    answer_need,
    answer_price,
    answer_plan,
    answer_cost,
    answer_proof,
    answer_margin,
    answer_check,
    answer_prove,
    answer_carry,
    answer_act,
    answer_lose,
    answer_found,
    answer_worth,
    answer_state,
    answer_due,
)


def answer_call(desk, call):
    if not is_in_range(call):
        return [OUT_OF_RANGE]
    if call.number != OPENING and desk.house is None:
        return [NOT_OPEN]
    if call.number in NEEDING_A_DAY and is_over(desk.house):
        return [ALL_CARRIED_OUT]
    return ANSWERERS[call.number](desk, call)


# Each answer stands behind how many numbers it has.
def answers(calls):
    desk = Desk()
    told = []
    place = 0
    while place < len(calls):
        call = Call(calls, place)
        answer = answer_call(desk, call)
        told.append(len(answer))
        told.extend(answer)
        place = call.end
    return told
