"""What a house keeps: its rules, its legs, and its members with the legs they have."""


class Rules:
    def __init__(self, plain, longest, windows):
        self.turn = plain[0]
        self.gap = plain[1]
        self.before = plain[2]
        self.after = plain[3]
        self.rest = plain[4]
        self.days = plain[5]
        self.longest = longest
        self.windows = windows


class Leg:
    def __init__(self, place, ends, times, needs):
        self.place = place
        self.origin = ends[0]
        self.to = ends[1]
        self.dep = times[0]
        self.arr = times[1]
        self.needs = needs


class Member:
    def __init__(self, number, base, rank):
        self.number = number
        self.base = base
        self.rank = rank
        # In no order of note: a delay may reorder the roster, so it is put in order when it is looked at.
        self.legs = []


class House:
    def __init__(self):
        self.rules = Rules([0, 300, 0, 0, 0, 30], [1440] * 8, [])
        self.legs = []
        # By ids; a dict keeps the order in which the members were told.
        self.members = {}


def leg_at(house, place):
    if place > len(house.legs):
        return None
    return house.legs[place - 1]


def minutes_of(legs):
    return sum([leg.arr - leg.dep for leg in legs])


def departure_order(leg):
    return (leg.dep, leg.place)


def in_order(legs):
    return sorted(legs, key=departure_order)
