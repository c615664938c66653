"""Writes calls as flat lists, and reads the flat answers back."""

from crewlegs.rosters import answers

EIGHT = (1440,) * 8


def rules(turn=0, gap=300, before=0, after=0, rest=0, days=30, longest=EIGHT, windows=()):
    plain = [0, turn, gap, before, after, rest, days]
    return plain + [len(longest), *longest, len(windows), *windows]


def leg(origin, to, dep, arr, needs=(4, 4, 4)):
    return [1, origin, to, dep, arr, len(needs), *needs]


def member(number, base=0, rank=0):
    return [2, number, base, rank]


def assign(number, place):
    return [3, number, place]


def unassign(number, place):
    return [4, number, place]


def check(number):
    return [5, number]


def swap(number, other, t):
    return [6, number, other, t]


def delay(place, z):
    return [7, place, z]


def fits(place, rank):
    return [8, place, rank]


def fill(place):
    return [9, place]


def flying(number, t, w):
    return [10, number, t, w]


def worst(number, w):
    return [11, number, w]


def roster(number):
    return [12, number]


def duties(number):
    return [13, number]


def unmet():
    """The call that the document names open."""
    return [14]


def run(number):
    return [15, number]


def shown(place):
    return [16, place]


def split(flat):
    """The answers, one list a call."""
    told = []
    at = 0
    while at < len(flat):
        told.append(flat[at + 1:at + 1 + flat[at]])
        at += 1 + flat[at]
    return told


def ask(*calls):
    """The answers to these calls, one list a call."""
    told = split(answers([number for call in calls for number in call]))
    if len(told) != len(calls):
        raise AssertionError(f"{len(calls)} calls, {len(told)} answers")
    return told


def last(*calls):
    """The answer to the last of these calls."""
    return ask(*calls)[-1]


def hops(times, start=0):
    """Legs to and fro between the airports 0 and 1, with these (dep, arr)."""
    return [leg((start + k) % 2, (start + k + 1) % 2, dep, arr) for k, (dep, arr) in enumerate(times)]


def crew(*ranks):
    """Members 1, 2, 3, ... at base 0, of these ranks."""
    return [member(number, 0, rank) for number, rank in enumerate(ranks, start=1)]


def flier(times, number=1, base=0):
    """A member who has hops at these times, under the rules of the beginning, with no word refused."""
    calls = hops(times) + [member(number, base)]
    calls += [assign(number, k + 1) for k in range(len(times))]
    return calls


def lapped(spans):
    """A member 1 who has legs at these (dep, arr), which may overlap.

    Overlapping legs aren't given to anybody, so each leg is told two days behind the one before and then moved.
    """
    calls = flier([(dep + 2880 * k, arr + 2880 * k) for k, (dep, arr) in enumerate(spans)])
    return calls + [delay(k + 1, -1440) for k in range(len(spans)) for half in range(2 * k)]


def must_be_granted(calls, told):
    for call, answer in zip(calls, told):
        if answer[0] != 0:
            raise AssertionError(f"call {call} is refused: {answer}")


def granted(*calls):
    """What the last of these calls tells behind its 0; none of them may be refused."""
    told = ask(*calls)
    must_be_granted(calls, told)
    return told[-1][1:]


def fault(times, *then):
    """Kind and number of the fault of a member with hops at these times, behind other calls."""
    calls = flier(times)
    told = ask(*calls, *then, check(1))
    must_be_granted(calls, told)
    return told[-1][1:]


def at_member_edges(asked):
    """What is answered first for the ids -1, 0, 1, 2, 999999999, 1000000000, 1000000001; there are 1 and 1000000000."""
    ids = (-1, 0, 1, 2, 999999999, 1000000000, 1000000001)
    return [answer[0] for answer in ask(member(1), member(1000000000), *[asked(number) for number in ids])[2:]]


def has(number, place):
    """A call that is answered [0] if the member has the leg and [-8] if not; it takes the leg away."""
    return unassign(number, place)
