"""Rosters: the answers to a line of calls about one new house."""

from crewlegs.calls import carry_out
from crewlegs.forms import Reader, argument_sorts, is_call_right, read_call
from crewlegs.house import House, leg_at

OUT_OF_RANGE = -2
NO_MEMBER = -3
NO_LEG = -7


# The arguments with members and legs in place of what names them; None for one that is not there.
def find_named(house, call):
    found = []
    for sort, number in zip(argument_sorts(call), call.arguments):
        if sort == "member":
            found.append(house.members.get(number))
        elif sort == "leg":
            found.append(leg_at(house, number))
        else:
            found.append(number)
    return found


def answer_of(house, call):
    if not is_call_right(call):
        return [OUT_OF_RANGE]
    found = find_named(house, call)
    missing = [sort for sort, thing in zip(argument_sorts(call), found) if thing is None]
    if "member" in missing:
        return [NO_MEMBER]
    if "leg" in missing:
        return [NO_LEG]
    return carry_out(house, call.place, found, call.rows)


def answers(calls):
    house = House()
    reader = Reader(calls)
    told = []
    while not reader.is_done():
        answer = answer_of(house, read_call(reader))
        told.append(len(answer))
        told.extend(answer)
    return told
