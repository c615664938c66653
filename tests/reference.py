"""The document's words once more, written as slowly and plainly as they are told, to be compared with."""

RANGES = {
    0: [(0, 300), (300, 1440), (0, 180), (0, 180), (0, 2880), (1, 30)],
    1: [(0, 17575), (0, 17575), (0, 10000000), (0, 10000000)],
    2: [(1, 1000000000), (0, 17575), (0, 2)],
    3: [(1, 1000000000), (1, 60)],
    4: [(1, 1000000000), (1, 60)],
    5: [(1, 1000000000)],
    6: [(1, 1000000000), (1, 1000000000), (0, 10000000)],
    7: [(1, 60), (-1440, 1440)],
    8: [(1, 60), (0, 2)],
    9: [(1, 60)],
    10: [(1, 1000000000), (0, 10000000), (0, 10000000)],
    11: [(1, 1000000000), (0, 10000000)],
    12: [(1, 1000000000)],
    13: [(1, 1000000000)],
    14: [],
    15: [(1, 1000000000)],
    16: [(1, 60)],
}

NAMES = ["rules", "leg", "member", "assign", "unassign", "check", "swap", "delay", "fits", "fill", "flying", "worst",
         "roster", "duties", "open", "run", "shown"]

# How many plain arguments of each call are ids, and then how many are places of legs.
NAMED = {3: (1, 1), 4: (1, 1), 5: (1, 0), 6: (2, 0), 7: (0, 1), 8: (0, 1), 9: (0, 1), 10: (1, 0), 11: (1, 0),
         12: (1, 0), 13: (1, 0), 15: (1, 0), 16: (0, 1)}


def outside(place, plain, rows):
    if any(not low <= number <= high for number, (low, high) in zip(plain, RANGES[place])):
        return True
    if place == 0:
        longest, windows = rows
        pairs = list(zip(windows[::2], windows[1::2]))
        return (len(longest) != 8 or not all(0 <= number <= 1440 for number in longest)
                or len(windows) not in (0, 2, 4, 6, 8)
                or not all(60 <= w <= 60000 and 0 <= most <= 60000 for w, most in pairs))
    if place == 1:
        return len(rows[0]) != 3 or not all(0 <= number <= 4 for number in rows[0])
    return False


class Reference:
    def __init__(self):
        self.plain = [0, 300, 0, 0, 0, 30]
        self.longest = [1440] * 8
        self.windows = []
        self.legs = []
        self.people = []
        self.pairs = set()

    def roster(self, number, pairs):
        places = [place for who, place in pairs if who == number]
        return [self.legs[p - 1] for p in sorted(places, key=lambda p: (self.legs[p - 1]["dep"], p))]

    def duties(self, roster):
        cuts = []
        for earlier, one in zip([None] + roster, roster):
            if earlier is None or one["dep"] >= earlier["arr"] + self.plain[1]:
                cuts.append([])
            cuts[-1].append(one)
        return [(max(0, c[0]["dep"] - self.plain[2]), c[-1]["arr"] + self.plain[3], len(c),
                 sum(one["arr"] - one["dep"] for one in c)) for c in cuts]

    def worst(self, roster, w):
        """By every minute at which a window may begin."""
        latest = max([one["arr"] for one in roster], default=0)
        w = min(w, latest)
        busy = [0] * (latest + w + 2)
        for one in roster:
            for minute in range(one["dep"], one["arr"]):
                busy[minute] += 1
        now = most = sum(busy[:w])
        for t in range(latest + 1):
            now += busy[t + w] - busy[t]
            most = max(most, now)
        return most

    def run(self, duties):
        touched = {day for begin, end, *rest in duties for day in range(begin // 1440, (end - 1) // 1440 + 1)}
        best = 0
        for day in touched:
            many = 0
            while day + many in touched:
                many += 1
            best = max(best, many)
        return best

    def wrongs(self, number, pairs):
        """All that's wrong, in order."""
        base = [base for who, base, rank in self.people if who == number][0]
        roster = self.roster(number, pairs)
        duties = self.duties(roster)
        where = [base] + [one["to"] for one in roster]
        yield from ((1, k + 1) for k, one in enumerate(roster) if one["from"] != where[k])
        yield from ((2, k + 1) for k in range(1, len(roster))
                    if roster[k]["dep"] < roster[k - 1]["arr"] + self.plain[0])
        yield from ((3, k + 1) for k, (begin, end, many, minutes) in enumerate(duties)
                    if many > 8 or end - begin > self.longest[many - 1])
        for k in range(1, len(duties)):
            begin, end, many, minutes = duties[k - 1]
            if duties[k][0] < end + max(self.plain[4], end - begin):
                yield (4, k + 1)
        yield from ((5, k + 1) for k, (w, most) in enumerate(self.windows) if self.worst(roster, w) > most)
        if self.run(duties) > self.plain[5]:
            yield (6, self.run(duties))

    def fault(self, number, pairs):
        return next(self.wrongs(number, pairs), (0, 0))

    def broken(self):
        return [who for who, base, rank in self.people if self.fault(who, self.pairs) != (0, 0)]

    def rank(self, number):
        return [rank for who, base, rank in self.people if who == number][0]

    def call(self, place, plain, rows):
        if outside(place, plain, rows):
            return [-2]
        ids, places = NAMED.get(place, (0, 0))
        if any(number not in [who for who, base, rank in self.people] for number in plain[:ids]):
            return [-3]
        if any(p > len(self.legs) for p in plain[ids:ids + places]):
            return [-7]
        return getattr(self, "do_" + NAMES[place])(*plain, *rows)

    def holders(self, p, rank):
        return len([who for who, q in self.pairs if q == p and self.rank(who) == rank])

    def do_rules(self, turn, gap, before, after, rest, days, longest, windows):
        if longest != sorted(longest, reverse=True):
            return [-5]
        self.plain = [turn, gap, before, after, rest, days]
        self.longest = longest
        self.windows = list(zip(windows[::2], windows[1::2]))
        return [0] + self.broken()

    def do_leg(self, origin, to, dep, arr, needs):
        if origin == to or dep < 1440 or not dep < arr <= dep + 1200:
            return [-5]
        if len(self.legs) == 60:
            return [-6]
        place = len(self.legs) + 1
        self.legs.append({"place": place, "from": origin, "to": to, "dep": dep, "arr": arr, "needs": needs})
        return [0, place]

    def do_member(self, number, base, rank):
        if number in [who for who, base, rank in self.people]:
            return [-4]
        if len(self.people) == 30:
            return [-6]
        self.people.append((number, base, rank))
        return [0]

    def do_assign(self, number, p):
        if (number, p) in self.pairs:
            return [-8]
        rank = self.rank(number)
        if self.holders(p, rank) >= self.legs[p - 1]["needs"][rank]:
            return [-9]
        kind = self.fault(number, self.pairs | {(number, p)})[0]
        if kind:
            return [-10 - kind]
        self.pairs.add((number, p))
        return [0]

    def do_unassign(self, number, p):
        if (number, p) not in self.pairs:
            return [-8]
        self.pairs.remove((number, p))
        return [0]

    def do_check(self, number):
        return [0, *self.fault(number, self.pairs)]

    def do_swap(self, number, other, t):
        if number == other or self.rank(number) != self.rank(other):
            return [-10]
        if any((number, p) in self.pairs and (other, p) in self.pairs for p in range(1, 61)):
            return [-8]
        turned = {number: other, other: number}
        pairs = {(turned.get(who, who) if self.legs[p - 1]["dep"] >= t else who, p) for who, p in self.pairs}
        for who in (number, other):
            kind = self.fault(who, pairs)[0]
            if kind:
                return [-10 - kind]
        self.pairs = pairs
        return [0]

    def do_delay(self, p, z):
        one = self.legs[p - 1]
        if one["dep"] + z < 1440 or one["arr"] + z > 10000000:
            return [-5]
        one["dep"] += z
        one["arr"] += z
        return [0] + self.broken()

    def do_fits(self, p, rank):
        fitting = []
        for who, base, own in self.people:
            if own == rank and (who, p) not in self.pairs and self.fault(who, self.pairs | {(who, p)}) == (0, 0):
                minutes = sum(one["arr"] - one["dep"] for one in self.roster(who, self.pairs))
                fitting.append((minutes, who))
        return [0] + [who for minutes, who in sorted(fitting)]

    def do_fill(self, p):
        got = []
        for rank in range(3):
            while self.holders(p, rank) < self.legs[p - 1]["needs"][rank] and len(self.do_fits(p, rank)) > 1:
                got.append(self.do_fits(p, rank)[1])
                self.pairs.add((got[-1], p))
        return [0] + got

    def do_flying(self, number, t, w):
        roster = self.roster(number, self.pairs)
        return [0, sum(max(0, min(one["arr"], t + w) - max(one["dep"], t)) for one in roster)]

    def do_worst(self, number, w):
        return [0, self.worst(self.roster(number, self.pairs), w)]

    def do_roster(self, number):
        return [0] + [one["place"] for one in self.roster(number, self.pairs)]

    def do_duties(self, number):
        return [0] + [told for duty in self.duties(self.roster(number, self.pairs)) for told in duty]

    def do_open(self):
        told = [0]
        for p, one in enumerate(self.legs, start=1):
            missing = [max(0, one["needs"][rank] - self.holders(p, rank)) for rank in range(3)]
            if missing != [0, 0, 0]:
                told += [p] + missing
        return told

    def do_run(self, number):
        return [0, self.run(self.duties(self.roster(number, self.pairs)))]

    def do_shown(self, p):
        one = self.legs[p - 1]
        return [0, one["from"], one["to"], one["dep"], one["arr"], *one["needs"]] + [
            self.holders(p, rank) for rank in range(3)]
