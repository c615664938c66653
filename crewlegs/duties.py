"""Duties: how a roster is cut into them, and the days that they touch."""

DAY = 1440


class Duty:
    def __init__(self, rules, legs):
        self.legs = legs
        self.begin = max(0, legs[0].dep - rules.before)
        self.end = legs[-1].arr + rules.after


def length_of(duty):
    return duty.end - duty.begin


def cut_duties(rules, roster):
    parts = []
    for k, leg in enumerate(roster):
        # Only the leg next before counts, even where another one lands later.
        if k == 0 or leg.dep >= roster[k - 1].arr + rules.gap:
            parts.append([leg])
        else:
            parts[-1].append(leg)
    return [Duty(rules, legs) for legs in parts]


# Duties begin one behind the other, so one walk finds each stretch of touched days.
def longest_run(duties):
    greatest = 0
    first = 0
    # No duty touches a day before day 0, so the first one always begins a stretch.
    last = -2
    for duty in duties:
        begins = duty.begin // DAY
        if begins > last + 1:
            first = begins
        last = max(last, (duty.end - 1) // DAY)
        greatest = max(greatest, last - first + 1)
    return greatest
