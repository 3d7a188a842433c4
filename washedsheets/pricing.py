"""Prices of clean and of dirty sheets: whether they fit, and the bound below which no plan costs."""

from washedsheets.house import days_to_come


# From the last day on, because each day's price leans on the next one's.
def dirty_prices(house, clean):
    prices = []
    least = 0
    for place in range(len(clean) - 1, -1, -1):
        if place + house.fast_days < len(clean):
            least = max(least, clean[place + house.fast_days] - house.fast_cost)
        if place + house.slow_days < len(clean):
            least = max(least, clean[place + house.slow_days] - house.slow_cost)
        prices.append(least)
    prices.reverse()
    return prices


def bound_of(house, clean, dirty):
    bound = -house.clean * clean[0] - house.dirty * dirty[0]
    for place, day in enumerate(days_to_come(house)):
        bound += house.needs[day] * (clean[place] - dirty[place]) - house.due[day] * clean[place]
    return bound


def is_below_wash(dirty_price, clean, place, wash_cost):
    return place < len(clean) and dirty_price < clean[place] - wash_cost


# 0 if it has none; place is the day's place among the days to come.
def fault_of_day(house, clean, dirty, place):
    clean_price = clean[place]
    dirty_price = dirty[place]
    asked = (
        clean_price > house.prices[house.today + place],
        place > 0 and clean_price > clean[place - 1],
        clean_price < 0,
        dirty_price < 0,
        place + 1 < len(dirty) and dirty_price < dirty[place + 1],
        is_below_wash(dirty_price, clean, place + house.fast_days, house.fast_cost),
        is_below_wash(dirty_price, clean, place + house.slow_days, house.slow_cost),
    )
    for fault, is_so in enumerate(asked, start=1):
        if is_so:
            return fault
    return 0


# The day and its fault; None if the prices fit.
def first_fault(house, clean, dirty):
    for place, day in enumerate(days_to_come(house)):
        fault = fault_of_day(house, clean, dirty, place)
        if fault > 0:
            return [day, fault]
    return None
