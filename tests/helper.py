"""What the tests share: lines of calls, and a house reckoned anew in plain ways, apart from the program."""

import random
from dataclasses import dataclass, field, replace

from washedsheets.desk import answers
from washedsheets.house import House

OPEN, NEED, PRICE, PLAN, COST, PROOF, MARGIN, CHECK = range(8)
HUGE = 1000000000000000000


def line_of(calls):
    """One list of whole numbers; a call is its number, then its numbers and its lists."""
    line = []
    for call in calls:
        for part in call:
            if isinstance(part, list):
                line.append(len(part))
                line.extend(part)
            else:
                line.append(part)
    return line


def split_answers(told):
    split = []
    place = 0
    while place < len(told):
        count = told[place]
        split.append(told[place + 1:place + 1 + count])
        place += 1 + count
    if place != len(told):
        raise ValueError("an answer is cut off")
    return split


def ask(*calls):
    """The answers, one list for each call."""
    return split_answers(answers(line_of(calls)))


def ask_last(*calls):
    return ask(*calls)[-1]


@dataclass
class Case:
    """A house on its first day to come. aside: clean sheets that have to be put aside, for each day."""
    fast_days: int
    slow_days: int
    fast_cost: int
    slow_cost: int
    clean: int
    dirty: int
    prices: list
    needs: list
    due: list = field(default_factory=list)
    aside: list = field(default_factory=list)

    def __post_init__(self):
        self.due = self.due + [0] * (len(self.prices) - len(self.due))
        self.aside = self.aside + [0] * (len(self.prices) - len(self.aside))

    @property
    def days(self):
        return len(self.prices)

    def opening(self):
        return (OPEN, self.fast_days, self.slow_days, self.fast_cost, self.slow_cost, self.clean, self.dirty,
                self.prices, self.needs)

    def with_need(self, day, need):
        return replace(self, needs=self.needs[:day] + [need] + self.needs[day + 1:])

    def with_one_aside(self, day):
        return replace(self, aside=self.aside[:day] + [self.aside[day] + 1] + self.aside[day + 1:])


def house_of(case, before=0):
    """The program's own house, with so many days carried out before: no call of a line leads there yet."""
    washes = (case.fast_days, case.slow_days, case.fast_cost, case.slow_cost)
    house = House(washes, case.clean, case.dirty, [1] * before + case.prices, [2] * before + case.needs)
    house.today = before
    for day in range(case.days):
        house.due[before + day] = case.due[day]
    return house


def carry(case, plan):
    """(True, cost, clean kept and dirty kept each evening) or (False, the first day that can't be)."""
    clean, dirty, cost = case.clean, case.dirty, 0
    coming = {}
    kept_clean, kept_dirty = [], []
    for day in range(case.days):
        b, f, w = plan[0][day], plan[1][day], plan[2][day]
        clean += case.due[day] + coming.get(day, 0) + b - case.aside[day]
        if clean < case.needs[day]:
            return (False, day)
        clean -= case.needs[day]
        dirty += case.needs[day]
        if dirty < f + w:
            return (False, day)
        dirty -= f + w
        for sheets, wash in ((f, case.fast_days), (w, case.slow_days)):
            coming[day + wash] = coming.get(day + wash, 0) + sheets
        cost += b * case.prices[day] + f * case.fast_cost + w * case.slow_cost
        kept_clean.append(clean)
        kept_dirty.append(dirty)
    return (True, cost, kept_clean, kept_dirty)


def search(case):
    """(cost, b, f, w) of the first cheapest plan, by a search through every plan that can be carried out.

    More than all needs to come is never bought. What has been found for a state of the house is kept:
    of the plans that agree up to a day, the first cheapest goes on like the first cheapest from there.
    """
    found = {}

    def choices(day, clean, dirty):
        lacking = max(0, case.needs[day] + case.aside[day] - clean)
        wanted = sum(case.needs[day:]) + sum(case.aside[day:])
        evening = dirty + case.needs[day]
        for b in range(lacking, max(lacking, wanted) + 1):
            for f in range(evening + 1):
                for w in range(evening - f + 1):
                    yield b, f, w

    def best(day, clean, dirty, coming):
        if day == case.days:
            return (0, (), (), ())
        key = (day, clean, dirty, coming)
        if key not in found:
            found[key] = min(later(day, clean + coming[0] + case.due[day], dirty, coming[1:] + (0,), choice)
                             for choice in choices(day, clean + coming[0] + case.due[day], dirty))
        return found[key]

    def later(day, clean, dirty, coming, choice):
        b, f, w = choice
        back = list(coming)
        back[case.fast_days - 1] += f
        back[case.slow_days - 1] += w
        need = case.needs[day]
        rest = best(day + 1, clean + b - need - case.aside[day], dirty + need - f - w, tuple(back))
        cost = b * case.prices[day] + f * case.fast_cost + w * case.slow_cost
        return (cost + rest[0], (b,) + rest[1], (f,) + rest[2], (w,) + rest[3])

    cost, b, f, w = best(0, case.clean, case.dirty, (0,) * case.slow_days)
    return (cost, list(b), list(f), list(w))


def every_plan(case, most):
    """Each plan with numbers up to most, in no special order."""
    def rows(length):
        if length == 0:
            yield []
            return
        for rest in rows(length - 1):
            for number in range(most + 1):
                yield rest + [number]
    for numbers in rows(3 * case.days):
        yield (numbers[:case.days], numbers[case.days:2 * case.days], numbers[2 * case.days:])


def plan_arcs(case, plan):
    """[tail, head, flow, cost row]: what the plan does. The cost row is the price, then 1 at the number's place."""
    kept_clean, kept_dirty = carry(case, plan)[2:]
    days = case.days
    arcs = []

    def add(tail, head, flow, price=0, place=None):
        row = [price] + [0] * (3 * days)
        if place is not None:
            row[1 + place] = 1
        arcs.append([tail, head, flow, tuple(row)])

    def clean_on(day):
        return ("clean", day) if day < days else "outside"

    for day in range(days):
        dirty = ("dirty", day)
        add("outside", clean_on(day), plan[0][day], case.prices[day], day)
        add(dirty, clean_on(day + case.fast_days), plan[1][day], case.fast_cost, days + day)
        add(dirty, clean_on(day + case.slow_days), plan[2][day], case.slow_cost, 2 * days + day)
        add(clean_on(day), clean_on(day + 1), kept_clean[day])
        add(dirty, ("dirty", day + 1) if day + 1 < days else "outside", kept_dirty[day])
    return arcs


def better_round(arcs):
    """Steps (arc's number, 1 or -1) of a round that makes the cost row less, or None if there is none."""
    width = len(arcs[0][3])
    steps = []
    for number, (tail, head, flow, row) in enumerate(arcs):
        steps.append((tail, head, row, (number, 1)))
        if flow > 0:
            steps.append((head, tail, tuple(-x for x in row), (number, -1)))
    nodes = {tail for tail, head, row, step in steps} | {head for tail, head, row, step in steps}
    lengths = {node: (0,) * width for node in nodes}
    arrivals = {}
    changed = None
    for repeat in range(len(nodes) + 1):
        changed = None
        for tail, head, row, step in steps:
            length = tuple(x + y for x, y in zip(lengths[tail], row))
            if length < lengths[head]:
                lengths[head] = length
                arrivals[head] = (tail, step)
                changed = head
        if changed is None:
            return None
    for repeat in nodes:
        changed = arrivals[changed][0]
    start, node, found = changed, changed, []
    while node != start or not found:
        node, step = arrivals[node]
        found.append(step)
    return found


def improve(case):
    """(cost, b, f, w) of the first cheapest plan: from one that buys all, by better rounds until none is left."""
    clean, bought = case.clean, []
    for day in range(case.days):
        clean += case.due[day] - case.needs[day] - case.aside[day]
        bought.append(max(0, -clean))
        clean = max(0, clean)
    nothing = [0] * case.days
    arcs = plan_arcs(case, (bought, nothing, nothing))
    steps = better_round(arcs)
    while steps is not None:
        amount = min(arcs[number][2] for number, way in steps if way < 0)
        for number, way in steps:
            arcs[number][2] += way * amount
        steps = better_round(arcs)
    rows = [0] * (3 * case.days)
    for tail, head, flow, row in arcs:
        if 1 in row[1:]:
            rows[row[1:].index(1)] = flow
    plan = (rows[:case.days], rows[case.days:2 * case.days], rows[2 * case.days:])
    return (carry(case, plan)[1],) + plan


def faults(case, clean, dirty):
    """(day, fault) of each day that has one."""
    found = []
    for day in range(case.days):
        after_fast, after_slow = day + case.fast_days, day + case.slow_days
        asked = (
            clean[day] > case.prices[day],
            day > 0 and clean[day] > clean[day - 1],
            clean[day] < 0,
            dirty[day] < 0,
            day + 1 < case.days and dirty[day] < dirty[day + 1],
            after_fast < case.days and dirty[day] < clean[after_fast] - case.fast_cost,
            after_slow < case.days and dirty[day] < clean[after_slow] - case.slow_cost,
        )
        if any(asked):
            found.append((day, asked.index(True) + 1))
    return found


def bound(case, clean, dirty):
    total = -case.clean * clean[0] - case.dirty * dirty[0]
    for day in range(case.days):
        total += case.needs[day] * (clean[day] - dirty[day]) - case.due[day] * clean[day]
    return total


def some_case_with_due(seed):
    chance = random.Random(seed)
    return replace(some_case(seed, 3), due=[chance.randint(0, 2) for day in range(3)])


def some_case(seed, days, most_need=2, most_sheets=2, most_price=6, most_cost=3, most_slow=4):
    """A house by chance, the same for the same seed."""
    chance = random.Random(seed)
    fast_days = chance.randint(1, min(5, most_slow))
    slow_days = chance.randint(fast_days, most_slow)
    return Case(
        fast_days, slow_days, chance.randint(0, most_cost), chance.randint(0, most_cost),
        chance.randint(0, most_sheets), chance.randint(0, most_sheets),
        [chance.randint(0, most_price) for day in range(days)],
        [chance.randint(0, most_need) for day in range(days)],
    )
