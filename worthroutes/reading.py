"""Reads the one list of whole numbers that holds all calls."""

# By a call's number: how many whole numbers it has, and how many rows behind them.
SHAPES = (
    (4, 0),  # 0 node
    (2, 0),  # 1 line
    (4, 0),  # 2 set
    (1, 0),  # 3 unline
    (1, 0),  # 4 train
    (1, 0),  # 5 scrap
    (0, 0),  # 6 clear
    (0, 0),  # 7 graph
    (1, 0),  # 8 count
    (2, 0),  # 9 route
    (1, 0),  # 10 best
    (0, 0),  # 11 run
    (0, 1),  # 12 path
    (0, 1),  # 13 check
    (0, 2),  # 14 bound
    (0, 0),  # 15 reach
    (1, 0),  # 16 without
    (1, 0),  # 17 more
    (0, 0),  # 18 greedy
)


class Call:
    """One call: its number, its whole numbers and its rows."""

    def __init__(self, number, numbers, rows):
        self.number = number
        self.numbers = numbers
        self.rows = rows


class Reader:
    """A list of whole numbers and the place up to which it has been read."""

    def __init__(self, told):
        self.told = told
        self.place = 0

    def has_more(self):
        return self.place < len(self.told)

    def take_one(self):
        number = self.told[self.place]
        self.place = self.place + 1
        return number

    def take_many(self, many):
        numbers = self.told[self.place:self.place + many]
        self.place = self.place + many
        return numbers

    def take_row(self):
        many = self.take_one()
        return self.take_many(many)


def read_call(reader):
    number = reader.take_one()
    shape = SHAPES[number]
    numbers = reader.take_many(shape[0])
    rows = []
    while len(rows) < shape[1]:
        rows.append(reader.take_row())
    return Call(number, numbers, rows)


def read_calls(told):
    """All calls of the list, in order; the list itself stays as it is."""
    reader = Reader(told)
    calls = []
    while reader.has_more():
        calls.append(read_call(reader))
    return calls
