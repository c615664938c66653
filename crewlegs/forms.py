"""Forms: what the numbers of each call are, and how calls are read from one flat list."""

# What a number stands for, and its least and greatest value. A member or a leg
# is one that the house must already have; a newcomer is an id that it may lack.
RANGES = {
    "member": (1, 1000000000),
    "newcomer": (1, 1000000000),
    "leg": (1, 60),
    "airport": (0, 17575),
    "rank": (0, 2),
    "moment": (0, 10000000),
    "span": (0, 10000000),
    "shift": (-1440, 1440),
    "turn": (0, 300),
    "gap": (300, 1440),
    "margin": (0, 180),
    "rest": (0, 2880),
    "days": (1, 30),
    "length": (0, 1440),
    "stretch": (60, 60000),
    "most": (0, 60000),
    "need": (0, 4),
}

# For each call, by its place: what its plain arguments stand for.
ARGUMENTS = (
    ("turn", "gap", "margin", "margin", "rest", "days"),
    ("airport", "airport", "moment", "moment"),
    ("newcomer", "airport", "rank"),
    ("member", "leg"),
    ("member", "leg"),
    ("member",),
    ("member", "member", "moment"),
    ("leg", "shift"),
    ("leg", "rank"),
    ("leg",),
    ("member", "moment", "span"),
    ("member", "span"),
    ("member",),
    ("member",),
    (),
    ("member",),
    ("leg",),
)

# For each call that has rows, by its place: what they are.
ROWS = {0: ("longest", "windows"), 1: ("needs",)}

ROW_LENGTHS = {"longest": (8,), "windows": (0, 2, 4, 6, 8), "needs": (3,)}

# What a row's numbers stand for, over and over up to its end.
ROW_SORTS = {"longest": ("length",), "windows": ("stretch", "most"), "needs": ("need",)}


class Call:
    def __init__(self, place, arguments, rows):
        self.place = place
        self.arguments = arguments
        self.rows = rows


# Takes copies out of the list, so what was handed in stays as it is.
class Reader:
    def __init__(self, numbers):
        self.numbers = numbers
        self.at = 0

    def is_done(self):
        return self.at >= len(self.numbers)

    def take(self, many):
        taken = self.numbers[self.at:self.at + many]
        self.at += many
        return taken

    def take_one(self):
        return self.take(1)[0]


def row_names(place):
    return ROWS.get(place, ())


def read_call(reader):
    place = reader.take_one()
    arguments = reader.take(len(ARGUMENTS[place]))
    rows = []
    for name in row_names(place):
        many = reader.take_one()
        rows.append(reader.take(many))
    return Call(place, arguments, rows)


def argument_sorts(call):
    return ARGUMENTS[call.place]


def is_within(sort, number):
    limits = RANGES[sort]
    return limits[0] <= number <= limits[1]


def is_row_right(name, row):
    if len(row) not in ROW_LENGTHS[name]:
        return False
    sorts = ROW_SORTS[name]
    return all([is_within(sorts[k % len(sorts)], number) for k, number in enumerate(row)])


def is_call_right(call):
    plain = [is_within(sort, number) for sort, number in zip(argument_sorts(call), call.arguments)]
    rows = [is_row_right(name, row) for name, row in zip(row_names(call.place), call.rows)]
    return all(plain) and all(rows)
