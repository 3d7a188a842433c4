"""What the tests share: lines of calls, and a house reckoned anew in plain ways, apart from the program."""

import random
from dataclasses import dataclass, field, replace

from washedsheets.desk import answers

(OPEN, NEED, PRICE, PLAN, COST, PROOF, MARGIN, CHECK,
 PROVE, CARRY, ACT, LOSE, FOUND, WORTH, STATE, DUE) = range(16)
HUGE = 1000000000000000000

# Of each call's numbers the least and the most; of each of its lists also the least and the most length.
RANGES = {
    OPEN: ((1, 5), (1, 9), (0, 1000), (0, 1000), (0, 50), (0, 50), (0, 10000, 1, 7), (0, 20, 1, 7)),
    NEED: ((0, 6), (0, 20)),
    PRICE: ((0, 6), (0, 10000)),
    PLAN: (),
    COST: (),
    PROOF: (),
    MARGIN: ((0, 6),),
    CHECK: ((0, 999, 0, 7),) * 3,
    PROVE: ((-1000000, 1000000, 0, 7),) * 2,
    CARRY: (),
    ACT: ((0, 999),) * 3,
    LOSE: ((1, 1000),),
    FOUND: ((1, 1000),),
    WORTH: ((1, 100),),
    STATE: (),
    DUE: (),
}
# Of these a line has at most 30.
COUNTED = (PLAN, COST, PROOF, MARGIN, CARRY, WORTH)


def line_of(calls):
    """One list of whole numbers; a call is its number, then its numbers and its lists."""
    line = []
    for call in calls:
        for part in call:
            if isinstance(part, list):
                line.append(len(part))
                line.extend(part)
            else:
                line.append(part)
    return line


def split_answers(told):
    split = []
    place = 0
    while place < len(told):
        count = told[place]
        split.append(told[place + 1:place + 1 + count])
        place += 1 + count
    if place != len(told):
        raise ValueError("an answer is cut off")
    return split


def ask(*calls):
    """The answers, one list for each call."""
    return split_answers(answers(line_of(calls)))


def ask_last(*calls):
    return ask(*calls)[-1]


@dataclass
class Case:
    """A house from today on, which is its day 0. aside: clean sheets that have to be put aside, for each day."""
    fast_days: int
    slow_days: int
    fast_cost: int
    slow_cost: int
    clean: int
    dirty: int
    prices: list
    needs: list
    due: list = field(default_factory=list)
    aside: list = field(default_factory=list)

    def __post_init__(self):
        self.due = self.due + [0] * (len(self.prices) - len(self.due))
        self.aside = self.aside + [0] * (len(self.prices) - len(self.aside))

    @property
    def days(self):
        return len(self.prices)

    def opening(self):
        return (OPEN, self.fast_days, self.slow_days, self.fast_cost, self.slow_cost, self.clean, self.dirty,
                self.prices, self.needs)

    def with_need(self, day, need):
        return replace(self, needs=self.needs[:day] + [need] + self.needs[day + 1:])

    def with_one_aside(self, day):
        return replace(self, aside=self.aside[:day] + [self.aside[day] + 1] + self.aside[day + 1:])


def carry(case, plan):
    """(True, cost, clean kept and dirty kept each evening) or (False, the first day that can't be)."""
    clean, dirty, cost = case.clean, case.dirty, 0
    coming = {}
    kept_clean, kept_dirty = [], []
    for day in range(case.days):
        b, f, w = plan[0][day], plan[1][day], plan[2][day]
        clean += case.due[day] + coming.get(day, 0) + b - case.aside[day]
        if clean < case.needs[day]:
            return (False, day)
        clean -= case.needs[day]
        dirty += case.needs[day]
        if dirty < f + w:
            return (False, day)
        dirty -= f + w
        for sheets, wash in ((f, case.fast_days), (w, case.slow_days)):
            coming[day + wash] = coming.get(day + wash, 0) + sheets
        cost += b * case.prices[day] + f * case.fast_cost + w * case.slow_cost
        kept_clean.append(clean)
        kept_dirty.append(dirty)
    return (True, cost, kept_clean, kept_dirty)


def search(case):
    """(cost, b, f, w) of the first cheapest plan, by a search through every plan that can be carried out.

    More than all needs to come is never bought. What has been found for a state of the house is kept:
    of the plans that agree up to a day, the first cheapest goes on like the first cheapest from there.
    """
    found = {}

    def choices(day, clean, dirty):
        lacking = max(0, case.needs[day] + case.aside[day] - clean)
        wanted = sum(case.needs[day:]) + sum(case.aside[day:])
        evening = dirty + case.needs[day]
        for b in range(lacking, max(lacking, wanted) + 1):
            for f in range(evening + 1):
                for w in range(evening - f + 1):
                    yield b, f, w

    def best(day, clean, dirty, coming):
        if day == case.days:
            return (0, (), (), ())
        key = (day, clean, dirty, coming)
        if key not in found:
            found[key] = min(later(day, clean + coming[0] + case.due[day], dirty, coming[1:] + (0,), choice)
                             for choice in choices(day, clean + coming[0] + case.due[day], dirty))
        return found[key]

    def later(day, clean, dirty, coming, choice):
        b, f, w = choice
        back = list(coming)
        back[case.fast_days - 1] += f
        back[case.slow_days - 1] += w
        need = case.needs[day]
        rest = best(day + 1, clean + b - need - case.aside[day], dirty + need - f - w, tuple(back))
        cost = b * case.prices[day] + f * case.fast_cost + w * case.slow_cost
        return (cost + rest[0], (b,) + rest[1], (f,) + rest[2], (w,) + rest[3])

    cost, b, f, w = best(0, case.clean, case.dirty, (0,) * case.slow_days)
    return (cost, list(b), list(f), list(w))


def every_plan(case, most):
    """Each plan with numbers up to most, in no special order."""
    def rows(length):
        if length == 0:
            yield []
            return
        for rest in rows(length - 1):
            for number in range(most + 1):
                yield rest + [number]
    for numbers in rows(3 * case.days):
        yield (numbers[:case.days], numbers[case.days:2 * case.days], numbers[2 * case.days:])


def plan_arcs(case, plan):
    """[tail, head, flow, cost row]: what the plan does. The cost row is the price, then 1 at the number's place."""
    kept_clean, kept_dirty = carry(case, plan)[2:]
    days = case.days
    arcs = []

    def add(tail, head, flow, price=0, place=None):
        row = [price] + [0] * (3 * days)
        if place is not None:
            row[1 + place] = 1
        arcs.append([tail, head, flow, tuple(row)])

    def clean_on(day):
        return ("clean", day) if day < days else "outside"

    for day in range(days):
        dirty = ("dirty", day)
        add("outside", clean_on(day), plan[0][day], case.prices[day], day)
        add(dirty, clean_on(day + case.fast_days), plan[1][day], case.fast_cost, days + day)
        add(dirty, clean_on(day + case.slow_days), plan[2][day], case.slow_cost, 2 * days + day)
        add(clean_on(day), clean_on(day + 1), kept_clean[day])
        add(dirty, ("dirty", day + 1) if day + 1 < days else "outside", kept_dirty[day])
    return arcs


def better_round(arcs):
    """Steps (arc's number, 1 or -1) of a round that makes the cost row less, or None if there is none."""
    width = len(arcs[0][3])
    steps = []
    for number, (tail, head, flow, row) in enumerate(arcs):
        steps.append((tail, head, row, (number, 1)))
        if flow > 0:
            steps.append((head, tail, tuple(-x for x in row), (number, -1)))
    nodes = {tail for tail, head, row, step in steps} | {head for tail, head, row, step in steps}
    lengths = {node: (0,) * width for node in nodes}
    arrivals = {}
    changed = None
    for repeat in range(len(nodes) + 1):
        changed = None
        for tail, head, row, step in steps:
            length = tuple(x + y for x, y in zip(lengths[tail], row))
            if length < lengths[head]:
                lengths[head] = length
                arrivals[head] = (tail, step)
                changed = head
        if changed is None:
            return None
    for repeat in nodes:
        changed = arrivals[changed][0]
    start, node, found = changed, changed, []
    while node != start or not found:
        node, step = arrivals[node]
        found.append(step)
    return found


def improve(case):
    """(cost, b, f, w) of the first cheapest plan: from one that buys all, by better rounds until none is left."""
    clean, bought = case.clean, []
    for day in range(case.days):
        clean += case.due[day] - case.needs[day] - case.aside[day]
        bought.append(max(0, -clean))
        clean = max(0, clean)
    nothing = [0] * case.days
    arcs = plan_arcs(case, (bought, nothing, nothing))
    steps = better_round(arcs)
    while steps is not None:
        amount = min(arcs[number][2] for number, way in steps if way < 0)
        for number, way in steps:
            arcs[number][2] += way * amount
        steps = better_round(arcs)
    rows = [0] * (3 * case.days)
    for tail, head, flow, row in arcs:
        if 1 in row[1:]:
            rows[row[1:].index(1)] = flow
    plan = (rows[:case.days], rows[case.days:2 * case.days], rows[2 * case.days:])
    return (carry(case, plan)[1],) + plan


def faults_of_day(case, clean, dirty, day):
    """All of the day's faults, not the first alone."""
    after_fast, after_slow = day + case.fast_days, day + case.slow_days
    asked = (
        clean[day] > case.prices[day],
        day > 0 and clean[day] > clean[day - 1],
        clean[day] < 0,
        dirty[day] < 0,
        day + 1 < case.days and dirty[day] < dirty[day + 1],
        after_fast < case.days and dirty[day] < clean[after_fast] - case.fast_cost,
        after_slow < case.days and dirty[day] < clean[after_slow] - case.slow_cost,
    )
    return [number for number, is_so in enumerate(asked, start=1) if is_so]


def faults(case, clean, dirty):
    """(day, fault) of each day that has one."""
    told = [(day, faults_of_day(case, clean, dirty, day)) for day in range(case.days)]
    return [(day, numbers[0]) for day, numbers in told if numbers]


def bound(case, clean, dirty):
    total = -case.clean * clean[0] - case.dirty * dirty[0]
    for day in range(case.days):
        total += case.needs[day] * (clean[day] - dirty[day]) - case.due[day] * clean[day]
    return total


def some_case(seed, days, most_need=2, most_sheets=2, most_price=6, most_cost=3, most_slow=4):
    """A house by chance, the same for the same seed."""
    chance = random.Random(seed)
    fast_days = chance.randint(1, min(5, most_slow))
    slow_days = chance.randint(fast_days, most_slow)
    return Case(
        fast_days, slow_days, chance.randint(0, most_cost), chance.randint(0, most_cost),
        chance.randint(0, most_sheets), chance.randint(0, most_sheets),
        [chance.randint(0, most_price) for day in range(days)],
        [chance.randint(0, most_need) for day in range(days)],
    )


def least_dirty_prices(case, clean):
    dirty = [0] * case.days
    for day in reversed(range(case.days)):
        asked = [0] + dirty[day + 1:day + 2]
        for wash, cost in ((case.fast_days, case.fast_cost), (case.slow_days, case.slow_cost)):
            asked += [price - cost for price in clean[day + wash:day + wash + 1]]
        dirty[day] = max(asked)
    return dirty


class Refused(Exception):
    """Its one value is what is answered."""


class Model:
    """A house as the document tells it, apart from the program: what each call of a line must answer.

    best_of: how the cheapest plan is found, search or improve.
    """

    def __init__(self, best_of):
        self.best_of = best_of
        self.is_open = False
        self.today = 0
        self.paid = self.bought = self.lost = 0
        self.due = {}

    def answer(self, call):
        try:
            self.ask_ranges(call)
            if call[0] != OPEN and not self.is_open:
                raise Refused(-2)
            told = self.ANSWERERS[call[0]](self, *call[1:])
        except Refused as refused:
            return [refused.args[0]]
        return [0] + told

    def ask_ranges(self, call):
        for part, ends in zip(call[1:], RANGES[call[0]], strict=True):
            numbers = part if isinstance(part, list) else [part]
            if isinstance(part, list) and not ends[2] <= len(part) <= ends[3]:
                raise Refused(-1)
            if not all(ends[0] <= number <= ends[1] for number in numbers):
                raise Refused(-1)

    def case(self):
        coming = range(self.today, self.days)
        return Case(*self.washes, self.clean, self.dirty, self.prices[self.today:], self.needs[self.today:],
                    [self.due.get(day, 0) for day in coming])

    def ask_last_day(self):
        if self.today == self.days:
            raise Refused(-7)

    def ask_day(self, day):
        if not self.today <= day < self.days:
            raise Refused(-6)

    def ask_lengths(self, *rows):
        if any(len(row) != self.days - self.today for row in rows):
            raise Refused(-5)

    def best(self):
        self.ask_last_day()
        return self.best_of(self.case())

    def open_house(self, fast_days, slow_days, fast_cost, slow_cost, clean, dirty, prices, needs):
        if self.is_open:
            raise Refused(-3)
        if slow_days < fast_days:
            raise Refused(-4)
        if len(prices) != len(needs):
            raise Refused(-5)
        self.is_open = True
        self.washes = (fast_days, slow_days, fast_cost, slow_cost)
        self.clean, self.dirty = clean, dirty
        self.prices, self.needs = list(prices), list(needs)
        self.days = len(prices)
        return []

    def need(self, day, number):
        self.ask_day(day)
        self.needs[day] = number
        return []

    def price(self, day, number):
        self.ask_day(day)
        self.prices[day] = number
        return []

    def plan(self):
        cost, b, f, w = self.best()
        return [cost] + b + f + w

    def cost(self):
        return [self.best()[0]]

    def proof(self):
        cost = self.best()[0]
        case = self.case()
        clean = [self.best_of(case.with_one_aside(day))[0] - cost for day in range(case.days)]
        dirty = least_dirty_prices(case, clean)
        return [bound(case, clean, dirty)] + clean + dirty

    def margin(self, day):
        self.ask_day(day)
        case, place = self.case(), day - self.today
        return [self.best_of(case.with_need(place, case.needs[place] + 1))[0] - self.best()[0]]

    def check(self, b, f, w):
        self.ask_last_day()
        self.ask_lengths(b, f, w)
        carried = carry(self.case(), (b, f, w))
        return [1, carried[1]] if carried[0] else [0, self.today + carried[1]]

    def prove(self, clean, dirty):
        self.ask_last_day()
        self.ask_lengths(clean, dirty)
        found = faults(self.case(), clean, dirty)
        return [0, self.today + found[0][0], found[0][1]] if found else [1, bound(self.case(), clean, dirty)]

    def carry(self):
        cost, b, f, w = self.best()
        return [b[0], f[0], w[0]] + self.act(b[0], f[0], w[0])

    def act(self, b, f, w):
        self.ask_last_day()
        day = self.today
        clean = self.clean + self.due.get(day, 0) + b - self.needs[day]
        dirty = self.dirty + self.needs[day] - f - w
        if clean < 0 or dirty < 0:
            raise Refused(-8)
        fast_days, slow_days, fast_cost, slow_cost = self.washes
        self.clean, self.dirty, self.today = clean, dirty, day + 1
        self.due[day + fast_days] = self.due.get(day + fast_days, 0) + f
        self.due[day + slow_days] = self.due.get(day + slow_days, 0) + w
        paid = b * self.prices[day] + f * fast_cost + w * slow_cost
        self.paid += paid
        self.bought += b
        return [paid]

    def lose(self, number):
        if number > self.clean:
            raise Refused(-9)
        self.clean -= number
        self.lost += number
        return [self.clean]

    def find(self, number):
        if number > self.lost:
            raise Refused(-9)
        self.lost -= number
        self.dirty += number
        return [self.dirty]

    def worth(self, number):
        return [self.best()[0] - self.best_of(replace(self.case(), clean=self.clean + number))[0]]

    def state(self):
        return [self.today, self.days, self.clean, self.dirty, self.paid, self.bought, self.lost]

    def told_due(self):
        coming = [self.due.get(day, 0) for day in range(self.today, self.days)]
        return coming + [sum(sheets for day, sheets in self.due.items() if day >= self.days)]

    ANSWERERS = {OPEN: open_house, NEED: need, PRICE: price, PLAN: plan, COST: cost, PROOF: proof, MARGIN: margin,
                 CHECK: check, PROVE: prove, CARRY: carry, ACT: act, LOSE: lose, FOUND: find, WORTH: worth,
                 STATE: state, DUE: told_due}


def model_answers(calls, best_of):
    model = Model(best_of)
    return [model.answer(call) for call in calls]
