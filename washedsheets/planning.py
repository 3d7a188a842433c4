"""The cheapest plan of a house, and what one clean sheet more would cost on each day.

Sheets flow from outside to the clean ones of each day: new ones at the day's price; those that are there
or due for nothing; and a day's used ones, for nothing to its dirty ones, from there through the washes.
What a day needs has to arrive at its clean ones. The need alone tells how many are dirty in the evening,
so the use of a sheet is no arc.
"""

from washedsheets.flow import Network, send, shortest_ways
from washedsheets.house import day_cost, days_to_come

OUTSIDE = 0
# More than all days can need together.
ENDLESS = 1000000000


# The network of the days to come; place is a day's place among them.
class Sheetways:
    # An arc costs scale times its price and, if it stands for a number of the plan, that number's tie:
    # ties has them for all b, then all f, then all w.
    def __init__(self, house, scale, ties):
        self.house = house
        self.days = days_to_come(house)
        self.network = Network(1 + 2 * len(self.days))
        self.scale = scale
        self.ties = ties
        self.add_sheets()
        self.add_keeping()
        self.buying = self.buying_arcs()
        self.fast = self.washing_arcs(1, house.fast_days, house.fast_cost)
        self.slow = self.washing_arcs(2, house.slow_days, house.slow_cost)

    def clean_node(self, place):
        return 1 + place

    def dirty_node(self, place):
        return 1 + len(self.days) + place

    def add_sheets(self):
        house = self.house
        for place, day in enumerate(self.days):
            clean = house.due[day]
            dirty = house.needs[day]
            if place == 0:
                clean += house.clean
                dirty += house.dirty
            self.network.add_arc(OUTSIDE, self.clean_node(place), clean, 0)
            self.network.add_arc(OUTSIDE, self.dirty_node(place), dirty, 0)

    def add_keeping(self):
        for place in range(len(self.days) - 1):
            self.network.add_arc(self.clean_node(place), self.clean_node(place + 1), ENDLESS, 0)
            self.network.add_arc(self.dirty_node(place), self.dirty_node(place + 1), ENDLESS, 0)

    def arc_cost(self, row, place, price):
        return price * self.scale + self.ties[row * len(self.days) + place]

    def buying_arcs(self):
        arcs = []
        for place, day in enumerate(self.days):
            cost = self.arc_cost(0, place, self.house.prices[day])
            arcs.append(self.network.add_arc(OUTSIDE, self.clean_node(place), ENDLESS, cost))
        return arcs

    # A wash that comes back behind the last day has no arc: without it a plan is as cheap at least, and
    # stands earlier.
    def washing_arcs(self, row, wash_days, price):
        arcs = []
        for place in range(len(self.days) - wash_days):
            cost = self.arc_cost(row, place, price)
            head = self.clean_node(place + wash_days)
            arcs.append(self.network.add_arc(self.dirty_node(place), head, ENDLESS, cost))
        return arcs

    def meet_needs(self):
        for place, day in enumerate(self.days):
            send(self.network, OUTSIDE, self.clean_node(place), self.house.needs[day])

    def plan_row(self, arcs):
        row = [self.network.flow_through(arc) for arc in arcs]
        return row + [0] * (len(self.days) - len(row))


# Each is more than all behind it together.
def tie_weights(count):
    weights = []
    weight = 1
    while len(weights) < count:
        weights.append(weight)
        weight = weight * 2
    weights.reverse()
    return weights


# The rows b, f, w. Two plans differ by rounds through the network in which each arc stands once at most,
# forth or back. So weights that are doubled from place to place, and prices that outweigh them all, tell of
# each round rightly whether it leads to a cheaper plan or to an earlier one of the same cost.
def cheapest_plan(house):
    ties = tie_weights(3 * len(days_to_come(house)))
    ways = Sheetways(house, 2 * ties[0], ties)
    ways.meet_needs()
    return (ways.plan_row(ways.buying), ways.plan_row(ways.fast), ways.plan_row(ways.slow))


def plan_cost(house, plan):
    cost = 0
    for place, day in enumerate(days_to_come(house)):
        cost += day_cost(house, day, plan[0][place], plan[1][place], plan[2][place])
    return cost


def cheapest_cost(house):
    return plan_cost(house, cheapest_plan(house))


# One sheet more to put aside would go the shortest way that is left once all needs are met, which may
# send others on other ways.
def clean_prices(house):
    days = days_to_come(house)
    ways = Sheetways(house, 1, [0] * (3 * len(days)))
    ways.meet_needs()
    lengths = shortest_ways(ways.network, OUTSIDE)[0]
    return [lengths[ways.clean_node(place)] for place in range(len(days))]
