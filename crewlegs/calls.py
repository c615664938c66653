"""The calls: what each one asks of a house, changes in it and answers.

Each takes the house, the call's plain arguments (with the members and legs
themselves in place of their ids and places), and the call's rows.
"""

from crewlegs.duties import cut_duties, longest_run
from crewlegs.faults import fault_of
from crewlegs.house import Leg, Member, Rules, in_order, minutes_of
from crewlegs.windows import flown_from, most_flown

RANKS = (0, 1, 2)
MOST_LEGS = 60
MOST_MEMBERS = 30
FIRST_DEP = 1440
LAST_MOMENT = 10000000
LONGEST_LEG = 1200

# The refusals.
TAKEN_ID = -4
NOT_ALLOWED = -5
FULL = -6
WRONG_HOLDER = -8
NOT_NEEDED = -9
UNLIKE = -10
BEFORE_KINDS = -10


def is_broken(house, member):
    return fault_of(house.rules, member.base, member.legs)[0] > 0


def broken_ids(house):
    return [member.number for member in house.members.values() if is_broken(house, member)]


# The refusal if the member had these legs; 0 if its roster would keep the rules.
def refusal_with(house, member, legs):
    kind = fault_of(house.rules, member.base, legs)[0]
    return BEFORE_KINDS - kind if kind > 0 else 0


def holders_of(house, leg, rank):
    return len([member for member in house.members.values() if member.rank == rank and leg in member.legs])


def missing_in(house, leg, rank):
    return max(0, leg.needs[rank] - holders_of(house, leg, rank))


def pairs_of(row):
    return [(row[k], row[k + 1]) for k in range(0, len(row), 2)]


def call_rules(house, arguments, rows):
    longest = rows[0]
    if any([later > earlier for earlier, later in zip(longest, longest[1:])]):
        return [NOT_ALLOWED]
    house.rules = Rules(arguments, longest, pairs_of(rows[1]))
    return [0] + broken_ids(house)


def call_leg(house, arguments, rows):
    ends = arguments[0:2]
    times = arguments[2:4]
    lasts = times[1] - times[0]
    if ends[0] == ends[1] or times[0] < FIRST_DEP or lasts <= 0 or lasts > LONGEST_LEG:
        return [NOT_ALLOWED]
    if len(house.legs) >= MOST_LEGS:
        return [FULL]
    place = len(house.legs) + 1
    house.legs.append(Leg(place, ends, times, rows[0]))
    return [0, place]


def call_member(house, arguments, rows):
    number = arguments[0]
    if number in house.members:
        return [TAKEN_ID]
    if len(house.members) >= MOST_MEMBERS:
        return [FULL]
    house.members[number] = Member(number, arguments[1], arguments[2])
    return [0]


def call_assign(house, arguments, rows):
    member = arguments[0]
    leg = arguments[1]
    if leg in member.legs:
        return [WRONG_HOLDER]
    if missing_in(house, leg, member.rank) == 0:
        return [NOT_NEEDED]
    refusal = refusal_with(house, member, member.legs + [leg])
    if refusal < 0:
        return [refusal]
    member.legs.append(leg)
    return [0]


def call_unassign(house, arguments, rows):
    member = arguments[0]
    leg = arguments[1]
    if leg not in member.legs:
        return [WRONG_HOLDER]
    member.legs.remove(leg)
    return [0]


def call_check(house, arguments, rows):
    member = arguments[0]
    return [0] + list(fault_of(house.rules, member.base, member.legs))


def mixed_legs(keeper, giver, t):
    kept = [leg for leg in keeper.legs if leg.dep < t]
    return kept + [leg for leg in giver.legs if leg.dep >= t]


def call_swap(house, arguments, rows):
    first = arguments[0]
    second = arguments[1]
    if first.number == second.number or first.rank != second.rank:
        return [UNLIKE]
    if any([leg in second.legs for leg in first.legs]):
        return [WRONG_HOLDER]
    firsts = mixed_legs(first, second, arguments[2])
    seconds = mixed_legs(second, first, arguments[2])
    refusal = refusal_with(house, first, firsts)
    if refusal == 0:
        refusal = refusal_with(house, second, seconds)
    if refusal < 0:
        return [refusal]
    first.legs = firsts
    second.legs = seconds
    return [0]


def call_delay(house, arguments, rows):
    leg = arguments[0]
    dep = leg.dep + arguments[1]
    arr = leg.arr + arguments[1]
    if dep < FIRST_DEP or arr > LAST_MOMENT:
        return [NOT_ALLOWED]
    leg.dep = dep
    leg.arr = arr
    return [0] + broken_ids(house)


def could_take(house, member, leg):
    return leg not in member.legs and refusal_with(house, member, member.legs + [leg]) == 0


def load_order(member):
    return (minutes_of(member.legs), member.number)


def fitting_members(house, leg, rank):
    fitting = [one for one in house.members.values() if one.rank == rank and could_take(house, one, leg)]
    return sorted(fitting, key=load_order)


def call_fits(house, arguments, rows):
    return [0] + [member.number for member in fitting_members(house, arguments[0], arguments[1])]


# Nobody else's roster changes when a member gets the leg, so those who
# fit at first are, one behind the other, the first who fit each time.
def fill_rank(house, leg, rank):
    takers = fitting_members(house, leg, rank)[:missing_in(house, leg, rank)]
    for member in takers:
        member.legs.append(leg)
    return [member.number for member in takers]


def call_fill(house, arguments, rows):
    filled = [0]
    for rank in RANKS:
        filled.extend(fill_rank(house, arguments[0], rank))
    return filled


def call_flying(house, arguments, rows):
    return [0, flown_from(arguments[0].legs, arguments[1], arguments[2])]


def call_worst(house, arguments, rows):
    return [0, most_flown(arguments[0].legs, arguments[1])]


def call_roster(house, arguments, rows):
    return [0] + [leg.place for leg in in_order(arguments[0].legs)]


def duties_of(house, member):
    return cut_duties(house.rules, in_order(member.legs))


def call_duties(house, arguments, rows):
    told = [0]
    for duty in duties_of(house, arguments[0]):
        told.extend([duty.begin, duty.end, len(duty.legs), minutes_of(duty.legs)])
    return told


def call_open(house, arguments, rows):
    told = [0]
    for leg in house.legs:
        missing = [missing_in(house, leg, rank) for rank in RANKS]
        if any(missing):
            told.extend([leg.place] + missing)
    return told


def call_run(house, arguments, rows):
    return [0, longest_run(duties_of(house, arguments[0]))]


def call_shown(house, arguments, rows):
    leg = arguments[0]
    holders = [holders_of(house, leg, rank) for rank in RANKS]
    return [0, leg.origin, leg.to, leg.dep, leg.arr] + leg.needs + holders


# By the calls' places.
CALLS = (
    call_rules,
    call_leg,
    call_member,
    call_assign,
    call_unassign,
    call_check,
    call_swap,
    call_delay,
    call_fits,
    call_fill,
    call_flying,
    call_worst,
    call_roster,
    call_duties,
    call_open,
    call_run,
    call_shown,
)


def carry_out(house, place, arguments, rows):
    asked = CALLS[place]
    return asked(house, arguments, rows)
