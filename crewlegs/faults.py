"""Faults: the first thing that is wrong with a roster.

There is a finder for each kind of fault. It answers the number of the first fault of
its kind, or 0 if there is none: no fault has the number 0.
"""

from crewlegs.duties import cut_duties, length_of, longest_run
from crewlegs.house import in_order
from crewlegs.windows import most_flown


class Plan:
    def __init__(self, rules, base, legs):
        self.rules = rules
        self.base = base
        self.roster = in_order(legs)
        self.duties = cut_duties(rules, self.roster)


def misplaced_leg(plan):
    where = plan.base
    for number, leg in enumerate(plan.roster, start=1):
        if leg.origin != where:
            return number
        where = leg.to
    return 0


def hasty_leg(plan):
    roster = plan.roster
    for k in range(1, len(roster)):
        if roster[k].dep < roster[k - 1].arr + plan.rules.turn:
            return k + 1
    return 0


def is_overlong(duty, longest):
    many = len(duty.legs)
    return many > len(longest) or length_of(duty) > longest[many - 1]


def overlong_duty(plan):
    for number, duty in enumerate(plan.duties, start=1):
        if is_overlong(duty, plan.rules.longest):
            return number
    return 0


def unrested_duty(plan):
    duties = plan.duties
    for k in range(1, len(duties)):
        earlier = duties[k - 1]
        if duties[k].begin < earlier.end + max(plan.rules.rest, length_of(earlier)):
            return k + 1
    return 0


def overflown_window(plan):
    for number, window in enumerate(plan.rules.windows, start=1):
        if most_flown(plan.roster, window[0]) > window[1]:
            return number
    return 0


def overlong_run(plan):
    run = longest_run(plan.duties)
    return run if run > plan.rules.days else 0


# In the order of the kinds, 1 to 6.
FINDERS = (misplaced_leg, hasty_leg, overlong_duty, unrested_duty, overflown_window, overlong_run)


# Kind and number; 0 and 0 if the legs make a roster that keeps the rules.
def fault_of(rules, base, legs):
    plan = Plan(rules, base, legs)
    for kind, finder in enumerate(FINDERS, start=1):
        number = finder(plan)
        if number > 0:
            return (kind, number)
    return (0, 0)
