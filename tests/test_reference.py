"""Lines of many calls, drawn from fixed seeds, against the reference."""

import random
import unittest

from tests.reference import RANGES, Reference
from tests.talk import (ask, assign, check, delay, duties, fill, fits, flying, leg, member, roster, rules, run, shown,
                        swap, unassign, unmet, worst)

IDS = (3, 1, 8, 5, 2, 1000000000)


def drawn_rules(draw):
    longest = sorted([draw.choice((300, 500, 700, 1000, 1440)) for k in range(8)], reverse=True)
    if draw.random() < 0.1:
        draw.shuffle(longest)
    windows = []
    for k in range(draw.choice((0, 0, 0, 1, 1, 2, 3, 4))):
        w = draw.choice((60, 300, 720, 1440, 4000))
        windows += [w, min(w, draw.randrange(60, 1500))]
    return rules(draw.choice((0, 0, 20, 60)), draw.choice((300, 300, 500, 1440)), draw.choice((0, 30, 180)),
                 draw.choice((0, 20, 180)), draw.choice((0, 300, 700)), draw.choice((1, 2, 3, 30)), longest, windows)


def drawn_leg(draw):
    dep = draw.randrange(1440, 12000, 10)
    origin = draw.randrange(2)
    needs = [draw.choice((1, 2, 4, 4, 4)), draw.choice((1, 2)), draw.choice((0, 3))]
    to = 1 - origin if draw.random() < 0.95 else 2
    return leg(origin, to, dep, dep + draw.choice((50, 60, 100, 150, 200, 400, 1200)), needs)


def drawn_question(draw):
    number = draw.choice(IDS)
    w = draw.choice((0, 1, 60, 300, 777, 1440, 5000, 10000000))
    return draw.choice((
        flying(number, draw.randrange(0, 14000), w), worst(number, w), roster(number), duties(number), unmet(),
        run(number), shown(draw.randrange(1, 22))))


def drawn_call(draw):
    number = draw.choice(IDS)
    place = draw.randrange(1, 22)
    kind = draw.random()
    if draw.random() < 0.35:
        return drawn_question(draw)
    if draw.random() < 0.1:
        return fill(place)
    if kind < 0.4:
        return assign(number, place)
    if kind < 0.5:
        return unassign(number, place)
    if kind < 0.65:
        return check(number)
    if kind < 0.75:
        return swap(number, draw.choice(IDS), draw.randrange(0, 9000))
    if kind < 0.83:
        return delay(place, draw.choice((-1440, -300, -100, -10, 10, 50, 100, 300, 1440)))
    if kind < 0.93:
        return fits(place, draw.randrange(3))
    if kind < 0.96:
        return drawn_rules(draw)
    if kind < 0.98:
        return drawn_leg(draw)
    return member(number, draw.randrange(3), draw.randrange(3))


def spoilt(draw, call):
    """The call with one number, not its place nor a row's length, moved out of where it was."""
    free = {0: list(range(1, 7)), 1: list(range(1, 5))}.get(call[0], list(range(1, len(call))))
    if not free:
        return call
    call = list(call)
    call[draw.choice(free)] = draw.choice((-1, 0, 61, 17576, 1000000001, 10 ** 12, -10 ** 12))
    return call


def drawn_line(seed):
    draw = random.Random(seed)
    calls = [drawn_leg(draw) for k in range(20)]
    calls += [member(number, draw.randrange(2), draw.choice((0, 0, 0, 0, 1, 2))) for number in IDS[:5]]
    calls += [drawn_rules(draw)] if draw.random() < 0.3 else []
    # Legs that are offered by their dep make longer rosters than legs at random.
    by_dep = sorted(range(1, 21), key=lambda place: calls[place - 1][3])
    calls += [assign(number, place) for place in by_dep for number in IDS[:5] if draw.random() < 0.6]
    for k in range(170):
        call = drawn_call(draw)
        calls.append(spoilt(draw, call) if draw.random() < 0.04 else call)
    return calls


def parts(call):
    """The plain arguments and the rows of a flat call."""
    plain = len(RANGES[call[0]])
    rows = []
    at = 1 + plain
    while at < len(call):
        rows.append(call[at + 1:at + 1 + call[at]])
        at += 1 + call[at]
    return call[1:1 + plain], rows


class AgainstTheReference(unittest.TestCase):
    def test_drawn_lines(self):
        seen = {}
        for seed in range(40):
            calls = drawn_line(seed)
            reference = Reference()
            for k, (call, told) in enumerate(zip(calls, ask(*calls))):
                wanted = reference.call(call[0], *parts(call))
                self.assertEqual(told, wanted, (seed, k, call))
                key = (call[0], told[0], told[1] if call[0] == 5 and told[0] == 0 else None)
                seen[key] = seen.get(key, 0) + 1
        # The lines are of use only if they reach what they are drawn for.
        for place, number in [(3, -10 - kind) for kind in range(1, 7)] + [(3, 0), (3, -8), (3, -9), (6, 0), (6, -8)]:
            self.assertIn((place, number, None), seen)
        for kind in range(7):
            self.assertIn((5, 0, kind), seen)
        for place in range(17):
            self.assertIn((place, 0, 1 if place == 5 else None), seen)


if __name__ == "__main__":
    unittest.main()
