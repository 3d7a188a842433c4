"""The forms of the calls: which numbers and lists each has, and in which ranges they are."""

# For each call, by its number: the least and the most of each of its numbers.
NUMBERS = (
    ((1, 5), (1, 9), (0, 1000), (0, 1000), (0, 50), (0, 50)),
    ((0, 6), (0, 20)),
    ((0, 6), (0, 10000)),
    (),
    (),
    (),
    ((0, 6),),
    (),
    (),
    (),
    ((0, 999), (0, 999), (0, 999)),
    ((1, 1000),),
    ((1, 1000),),
    ((1, 100),),
    (),
    (),
)

# Likewise, of each of its lists: the least and the most length, the least and the most of its numbers.
LISTS = (
    ((1, 7, 0, 10000), (1, 7, 0, 20)),
    (),
    (),
    (),
    (),
    (),
    (),
    ((0, 7, 0, 999), (0, 7, 0, 999), (0, 7, 0, 999)),
    ((0, 7, -1000000, 1000000), (0, 7, -1000000, 1000000)),
    (),
    (),
    (),
    (),
    (),
    (),
    (),
)


# One call, read from a line. Where it ends is where the next one begins.
class Call:
    def __init__(self, calls, start):
        self.number = calls[start]
        place = start + 1 + len(NUMBERS[self.number])
        self.numbers = calls[start + 1:place]
        self.rows = []
        while len(self.rows) < len(LISTS[self.number]):
            behind = place + 1 + calls[place]
            self.rows.append(calls[place + 1:behind])
            place = behind
        self.end = place


def is_within(number, least, most):
    return least <= number and number <= most


def is_row_in_range(row, form):
    if not is_within(len(row), form[0], form[1]):
        return False
    return all([is_within(number, form[2], form[3]) for number in row])


def is_in_range(call):
    for number, form in zip(call.numbers, NUMBERS[call.number]):
        if not is_within(number, form[0], form[1]):
            return False
    for row, form in zip(call.rows, LISTS[call.number]):
        if not is_row_in_range(row, form):
            return False
    return True
